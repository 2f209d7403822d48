/-
  What a reader of package codec is, and what next and number of it return or throw. Conditions: at most 2^40 bytes.
-/
import Derived.Test.YtadikcioacaphaaWalkBf
import Derived.Test.YtadikcioacaphaaWalkBt
namespace Go.Proofs.Ytadikcioacaphaa
open Go.RowKit

/-- What a reader throws. -/
def thrown (n : Nat) : PanicEntry := { v := .iface 87 (.agg #[.int .i64 n]), recovered := false }
/-- The reader at block R: of the bytes bs, rest is to be read. -/
structure RdSt (R : Nat) (w : World) (bs rest : List Nat) : Prop where
  c0 : ∃ A c, w.cell? ⟨R, 0, none⟩ = some (.slice A bs.length c) ∧ bs.length ≤ c ∧ RwAt w 1 (bC bs) A bs.length ∧ ∀ b o, A = some ⟨b, o, none⟩ → b < R
  c1 : ∃ k, k ≤ bs.length ∧ w.cell? ⟨R, 1, none⟩ = some (.int .i64 (k : Nat)) ∧ bs.drop k = rest
  f1 : w.frozen? ⟨R, 1, none⟩ = false
  hb : ∀ b ∈ bs, b ≤ 255
  hl : bs.length ≤ 1099511627776
theorem RdSt.lt {R : Nat} {w : World} {bs rest : List Nat} (h : RdSt R w bs rest) : R < w.heap.size := by
  obtain ⟨A, c, h0, _⟩ := h.c0
  exact World.block_lt_of_cell? w _ h0
theorem RdSt.still {R : Nat} {w w' : World} {bs rest : List Nat} (h : RdSt R w bs rest) (hb : ∀ k, k ≤ R → w'.heap[k]? = w.heap[k]?) : RdSt R w' bs rest := by
  have hc : ∀ j, w'.cell? ⟨R, j, none⟩ = w.cell? ⟨R, j, none⟩ := fun j => World.cell?_of_block (w := w) (a := ⟨R, j, none⟩) (hb R (Nat.le_refl _))
  obtain ⟨A, c, h0, hc0, h1, h2⟩ := h.c0
  obtain ⟨k, hk, h3, h4⟩ := h.c1
  exact ⟨⟨A, c, (hc 0).trans h0, hc0, ⟨h1.1, fun hp => by
    obtain ⟨b, o, hA, hi⟩ := h1.2 hp
    exact ⟨b, o, hA, hi.of_block (hb b (Nat.le_of_lt (h2 b o hA)))⟩⟩, h2⟩, ⟨k, hk, (hc 1).trans h3, h4⟩, (World.frozen?_of_block (w := w) (a := ⟨R, 1, none⟩) (hb R (Nat.le_refl _))).trans h.f1, h.hb, h.hl⟩
theorem RdSt.below {R : Nat} {w w' : World} {bs rest : List Nat} (h : RdSt R w bs rest) (hb : Below w.heap.size w w') : RdSt R w' bs rest := h.still fun k hk => hb.block k (by have := h.lt; omega)
theorem RdSt.rest_le {R : Nat} {w : World} {bs rest : List Nat} (h : RdSt R w bs rest) : rest.length ≤ bs.length ∧ ∀ b ∈ rest, b ≤ 255 := by
  obtain ⟨k, _, _, rfl⟩ := h.c1
  exact ⟨by rw [List.length_drop]; omega, fun b hb => h.hb b (List.mem_of_mem_drop hb)⟩

theorem drop_cons' {l r : List Nat} {k c : Nat} (h : l.drop k = c :: r) : k < l.length ∧ l.getD k 0 = c ∧ l.drop (k + 1) = r := by
  have hl : k < l.length := by
    have := congrArg List.length h
    simp only [List.length_drop, List.length_cons] at this
    omega
  rw [List.drop_eq_getElem_cons hl] at h
  injection h with h1 h2
  exact ⟨hl, by rw [List.getD_eq_getElem?_getD, List.getElem?_eq_getElem hl]; exact h1, h2⟩
/-- A byte is taken. -/
theorem RdSt.step {R : Nat} {w : World} {bs r : List Nat} {x k : Nat} (h : RdSt R w bs (x :: r)) (hk : w.cell? ⟨R, 1, none⟩ = some (.int .i64 (k : Nat))) (n : Nat) :
    RdSt R ((w.drewN n).setCell ⟨R, 1, none⟩ (.int .i64 ((k : Int) + 1))) bs r ∧ Keep R w ((w.drewN n).setCell ⟨R, 1, none⟩ (.int .i64 ((k : Int) + 1))) := by
  have hb : Below w.heap.size w (w.drewN n) := below_drewN (Below.refl _ _) n
  have h' := h.below hb
  have hk' := (hb.cell (p := ⟨R, 1, none⟩) h.lt).trans hk
  refine ⟨?_, ((Keep.refl R w).drewN n).setR rfl _⟩
  obtain ⟨A, c, h0, hc0, h1, h2⟩ := h'.c0
  obtain ⟨k', hk2, h3, h4⟩ := h'.c1
  have he : k' = k := by
    rw [hk'] at h3
    injection h3 with h3
    injection h3 with _ h3
    omega
  subst he
  obtain ⟨hl, _, hd⟩ := drop_cons' h4
  have ho : ∀ b o, b ≠ R → ((w.drewN n).setCell ⟨R, 1, none⟩ (.int .i64 ((k' : Int) + 1))).cell? ⟨b, o, none⟩ = (w.drewN n).cell? ⟨b, o, none⟩ := fun b o hne => World.cell?_of_block (Below.heap_setCell _ _ _ _ hne)
  refine ⟨⟨A, c, ?_, hc0, ⟨h1.1, fun hp => ?_⟩, h2⟩, ⟨k' + 1, hl, ?_, hd⟩, ?_, h.hb, h.hl⟩
  · rw [World.cell?_setCell_other _ _ _ _ (by simp)]; exact h0
  · obtain ⟨b, o, hA, hi⟩ := h1.2 hp
    exact ⟨b, o, hA, fun j u hj => (ho b _ (by have := h2 b o hA; omega)).trans (hi j u hj)⟩
  · rw [World.cell?_setCell_same _ _ _ hk']; rfl
  · simp [h'.f1]
theorem RwAt.byte {w : World} {bs : List Nat} {A : Option Addr} {n : Nat} (h : RwAt w 1 (bC bs) A n) {k : Nat} (hk : k < n) : ∃ b o, A = some ⟨b, o, none⟩ ∧ w.cell? ⟨b, o + k, none⟩ = some (.int .u8 (bs.getD k 0 : Nat)) := by
  obtain ⟨b, o, hA, hc⟩ := h.2 (by omega)
  have hl := h.1
  rw [bC_len, Nat.mul_one] at hl
  refine ⟨b, o, hA, hc k _ ?_⟩
  rw [bC, List.getElem?_map, List.getD_eq_getElem?_getD, List.getElem?_eq_getElem (by omega)]
  rfl

set_option maxHeartbeats 400000 in
set_option maxRecDepth 100000 in
theorem next_short (R : Nat) (bs : List Nat) (w : World) (h : RdSt R w bs []) :
    Calls Try.prog 52 #[.pointer (some ⟨R, 0, none⟩)] w fun e w' => e = .panicked [thrown 8] ∧ Below w.heap.size w w' := by
  obtain ⟨A, c, c0, _, _, _⟩ := h.c0
  obtain ⟨k, hk, c1, hd⟩ := h.c1
  have hl := h.hl
  have hR := h.lt
  have hkn : bs.length ≤ k := by have := congrArg List.length hd; simp at this; omega
  obtain ⟨n, hn⟩ : ∃ n, bs.length = n := ⟨_, rfl⟩
  rw [hn] at c0 hk hl hkn
  have he : n = k := by omega
  subst he
  have hq : ((n : Int) == (n : Int)) = true := by simp
  clear h hd hn hkn hk
  go_enter Try.func52, Try.ntmps52
  go_wp2_with fail
  go_quiet (fail)
  go_wp2_with fail
  exact ⟨rfl, rfl, below_drewN (Below.refl _ _) _⟩

set_option maxHeartbeats 400000 in
set_option maxRecDepth 100000 in
theorem next_some (R : Nat) (bs r : List Nat) (x : Nat) (w : World) (h : RdSt R w bs (x :: r)) :
    Calls Try.prog 52 #[.pointer (some ⟨R, 0, none⟩)] w fun e w' => e = .returned (.int .u8 (x : Nat)) ∧ RdSt R w' bs r ∧ Keep R w w' := by
  have H := Lib.hid h
  obtain ⟨A, c, c0, hc, hrw, hA⟩ := h.c0
  obtain ⟨k, hk, c1, hd⟩ := h.c1
  have hl := h.hl
  have f1 := h.f1
  have hR := h.lt
  obtain ⟨hlt, hx, hd'⟩ := drop_cons' hd
  obtain ⟨b, o, rfl, hcell⟩ := hrw.byte hlt
  rw [hx] at hcell
  have hbR := hA b o rfl
  have HD := Lib.hid hd'
  have HK : Hid (k + 1 ≤ bs.length) := hlt
  obtain ⟨n, hn⟩ : ∃ n, bs.length = n := ⟨_, rfl⟩
  rw [hn] at c0 hc hlt hl
  have hbs : b < w.heap.size := by omega
  have hne : ((k : Int) == (n : Int)) = false := by simp; omega
  have hq : k < n := hlt
  have hw1 : IntKind.i64.wrap ((k : Int) + 1) = (k : Int) + 1 := IntWalk.i64_in _ (by omega)
  clear h hd hn hrw hA hd' hx hk
  go_enter Try.func52, Try.ntmps52
  go_wp2_with fail
  go_quiet (fail)
  go_wp2_with fail
  go_quiet (fail)
  go_wp2_with fail
  go_ret
  exact ⟨rfl, H.out.step c1 _⟩

/-- What a part of a reader returns, or throws. -/
def RP {α : Type} (R : Nat) (bs : List Nat) (V : World → α → Value → Prop) (r : RR α) (w : World) (e : Ending) (w' : World) : Prop :=
  match r with
  | .ok a t => ∃ v, e = .returned v ∧ V w' a v ∧ RdSt R w' bs t ∧ Keep R w w'
  | .err k => e = .panicked [thrown k] ∧ Keep R w w'
/-- On the way of a number. -/
structure NbSt (R : Nat) (bs rest : List Nat) (w0 w : World) (i u : Nat) (t : List Nat) : Prop where
  st : RdSt R w bs t
  keep : Keep R w0 w
  eq : numA i u t = numS rest
  hi : i ≤ 9
  hu : u < 128 ^ i
def VInt : World → Int → Value → Prop := fun _ z v => v = .int .i64 z

theorem pow_two (i : Nat) : (128 : Nat) ^ i = 2 ^ (7 * i) := by rw [Nat.pow_mul]
theorem or_low {u x i : Nat} (h : u < 128 ^ i) : u ||| x * 2 ^ (7 * i) = u + x * 128 ^ i := by
  rw [pow_two] at h ⊢
  rw [Nat.mul_comm x, Nat.or_comm, ← Nat.two_pow_add_eq_or_of_lt h, Nat.add_comm]
theorem pow_le9 {i : Nat} (h : i ≤ 9) : 128 ^ i ≤ 9223372036854775808 := by
  have : 128 ^ i ≤ 128 ^ 9 := Nat.pow_le_pow_right (by decide) h
  rwa [p128_9] at this
theorem shl_fit {c i : Nat} (h : i ≤ 9) (hc : c < 128) (h9 : i = 9 → c ≤ 1) : c * 128 ^ i < 18446744073709551616 ∧ (i ≠ 9 → c * 128 ^ i + 128 ^ i ≤ 9223372036854775808) := by
  by_cases e : i = 9
  · subst e
    have := h9 rfl
    refine ⟨?_, fun h => absurd rfl h⟩
    rw [p128_9]; omega
  · have h8 : 128 ^ i ≤ 128 ^ 8 := Nat.pow_le_pow_right (by decide) (by omega)
    rw [p128_8] at h8
    have := Nat.mul_le_mul (show c ≤ 127 by omega) h8
    exact ⟨by omega, fun _ => by omega⟩

set_option maxHeartbeats 1000000 in
set_option maxRecDepth 100000 in
theorem number_any (R : Nat) (bs rest : List Nat) (w : World) (h : RdSt R w bs rest) :
    Calls Try.prog 27 #[.pointer (some ⟨R, 0, none⟩)] w (RP R bs VInt (numS rest) w) := by
  have H0 : Hid (NbSt R bs rest w w 0 0 rest) := ⟨h, Keep.refl _ _, rfl, by decide, by decide⟩
  have hle := Nat.le_trans h.rest_le.1 h.hl
  obtain ⟨L, hL⟩ : ∃ L, rest.length = L := ⟨_, rfl⟩
  have HLL := Lib.hid hL
  clear h hL
  go_enter Try.func27, Try.ntmps27
  go_wp2_with fail
  go_loopg [3, 4] L (fun g a b wr => ∃ (i u : Nat) (t : List Nat), t.length = g ∧ a = .int .u64 u ∧ b = .int .i64 (7 * (i : Int)) ∧ Hid (NbSt R bs rest w wr i u t))
  case atStart => exact ⟨0, 0, rest, HLL.out, rfl, rfl, H0⟩
  case round =>
    obtain ⟨i, u, t, ht, rfl, rfl, HP⟩ := hrel
    have HT := Lib.hid ht
    clear ht
    cases t with
    | nil =>
      have HQ : Hid (∀ w', Below wr.heap.size wr w' → RP R bs VInt (numS rest) w (.panicked [thrown 8]) w') := fun w' hb => by
        rw [← HP.out.eq]
        exact ⟨rfl, HP.out.keep.trans (Keep.of_below hb)⟩
      go_wp2_with fail
      refine (next_short R bs _ HP.out.st).mono ?_
      rintro e w1 ⟨rfl, hb⟩
      exact ⟨rfl, HQ.out _ hb⟩
    | cons c t =>
      have hc := HP.out.st.rest_le.2 c (List.mem_cons_self ..)
      have hi := HP.out.hi
      have HE : Hid (numS rest = if (i = 9 ∧ 1 < c) ∨ (0 < i ∧ c = 0) then .err 9 else if c < 128 then .ok (decZ (u + c * 128 ^ i)) t else numA (i + 1) (u + (c - 128) * 128 ^ i) t) := HP.out.eq.symm
      by_cases hf : (i = 9 ∧ 1 < c) ∨ (0 < i ∧ c = 0)
      · have HQ : Hid (∀ w', Keep R wr w' → RP R bs VInt (numS rest) w (.panicked [thrown 9]) w') := fun w' hb => by
          rw [HE.out, if_pos hf]
          exact ⟨rfl, HP.out.keep.trans hb⟩
        clear HE
        go_wp2_with fail
        refine (next_some R bs t c _ HP.out.st).mono ?_
        rintro e w1 ⟨rfl, hst, hk⟩
        have HQ1 := Lib.hid (HQ.out w1 hk)
        clear hst hk HQ
        by_cases h9 : i = 9 ∧ 1 < c
        · have q1 : (7 * (i : Int) == 63) = true := by simp; omega
          have q2 : (1 : Int) < (c : Int) := by omega
          clear hf hc hi h9 hle
          go_wp2_with fail
          exact ⟨rfl, HQ1.out⟩
        · have q3 : (0 : Int) < 7 * (i : Int) := by omega
          have q4 : ((c : Int) == 0) = true := by simp; omega
          have q2 : ¬ (1 : Int) < (c : Int) := by omega
          obtain ⟨b, q1⟩ : ∃ b, (7 * (i : Int) == 63) = b := ⟨_, rfl⟩
          clear hf hc hi h9 hle
          cases b
          all_goals
            go_wp2_with fail
            exact ⟨rfl, HQ1.out⟩
      · rw [if_neg hf] at HE
        go_wp2_with fail
        refine (next_some R bs t c _ HP.out.st).mono ?_
        rintro e w1 ⟨rfl, hst, hk⟩
        have HST := Lib.hid hst
        have HK1 := Lib.hid (HP.out.keep.trans hk)
        clear hst hk
        have hA : bits .andNot .u8 (c : Int) 128 = ((c % 128 : Nat) : Int) := b_andNot8 c (by omega)
        have hfit := shl_fit (c := c % 128) hi (by omega) (fun h => by omega)
        obtain ⟨U, hUV⟩ : ∃ U, u + (c % 128) * 128 ^ i = U := ⟨_, rfl⟩
        have hu := HP.out.hu
        have hp9 := pow_le9 hi
        have hU64 : U < 18446744073709551616 := by
          by_cases h9 : i = 9
          · have hc1 : c % 128 ≤ 1 := by omega
            have h3 : (c % 128) * 128 ^ i ≤ 1 * 128 ^ i := Nat.mul_le_mul_right _ hc1
            omega
          · have := hfit.2 h9
            omega
        have hO : bits .or .u64 (u : Int) (IntKind.u64.wrap ((c : Int) % 128 * 2 ^ (7 * i))) = (U : Int) := by
          have e : (c : Int) % 128 * 2 ^ (7 * i) = ((c % 128 * 2 ^ (7 * i) : Nat) : Int) := by simp
          have h1 : c % 128 * 2 ^ (7 * i) < 18446744073709551616 := by rw [← pow_two]; exact hfit.1
          rw [e, wrapU h1, b_or64 _ _ (by omega) h1, or_low hu, hUV]
        obtain ⟨H, hdiv0⟩ : ∃ H, U / 2 = H := ⟨_, rfl⟩
        have hH : H < 9223372036854775808 := by omega
        have hdiv : (U : Int) / 2 = (H : Int) := by omega
        clear hfit hu hp9 hle
        by_cases hlt : c < 128
        · rw [if_pos hlt] at HE
          have hcm : c % 128 = c := Nat.mod_eq_of_lt hlt
          rw [hcm] at hUV
          have HQ : Hid (RP R bs VInt (numS rest) w (.returned (.int .i64 (decZ U))) w1) := by
            show RP _ _ _ _ _ _ _
            rw [HE.out, hUV]
            exact ⟨_, rfl, rfl, HST.out, HK1.out⟩
          have q5 : (c : Int) < 128 := by omega
          clear HE hcm
          rcases (show (i = 9 ∧ c = 1) ∨ (i = 0) ∨ (i ≠ 9 ∧ 0 < i ∧ c ≠ 0) by omega) with h | h | h
          · have q1 : (7 * (i : Int) == 63) = true := by simp; omega
            have q2 : ¬ (1 : Int) < (c : Int) := by omega
            have q3 : (0 : Int) < 7 * (i : Int) := by omega
            have q4 : ((c : Int) == 0) = false := by simp; omega
            clear h
            cases hodd : U % 2 with
            | zero =>
              have hN : bits .and .u64 (U : Int) 1 = 0 := by rw [b_and1 U, hodd]; rfl
              have hX : bits .xor .i64 (H : Int) 0 = decZ U := by rw [b_xorI_0 H hH]; unfold decZ; rw [if_neg (by omega)]; omega
              clear hodd hf hc hlt hUV hU64
              go_wp2_with fail
              go_ret
              exact HQ.out
            | succ m =>
              have hN : bits .and .u64 (U : Int) 1 = 1 := by rw [b_and1 U, show U % 2 = 1 by omega]; rfl
              have hX : bits .xor .i64 (H : Int) (-1) = decZ U := by rw [b_xorI_1 H hH]; unfold decZ; rw [if_pos (by omega)]; omega
              clear hodd hf hc hlt hUV hU64
              go_wp2_with fail
              go_ret
              exact HQ.out
          · have q1 : (7 * (i : Int) == 63) = false := by simp; omega
            have q3 : ¬ (0 : Int) < 7 * (i : Int) := by omega
            clear h
            cases hodd : U % 2 with
            | zero =>
              have hN : bits .and .u64 (U : Int) 1 = 0 := by rw [b_and1 U, hodd]; rfl
              have hX : bits .xor .i64 (H : Int) 0 = decZ U := by rw [b_xorI_0 H hH]; unfold decZ; rw [if_neg (by omega)]; omega
              clear hodd hf hc hlt hUV hU64
              go_wp2_with fail
              go_ret
              exact HQ.out
            | succ m =>
              have hN : bits .and .u64 (U : Int) 1 = 1 := by rw [b_and1 U, show U % 2 = 1 by omega]; rfl
              have hX : bits .xor .i64 (H : Int) (-1) = decZ U := by rw [b_xorI_1 H hH]; unfold decZ; rw [if_pos (by omega)]; omega
              clear hodd hf hc hlt hUV hU64
              go_wp2_with fail
              go_ret
              exact HQ.out
          · have q1 : (7 * (i : Int) == 63) = false := by simp; omega
            have q3 : (0 : Int) < 7 * (i : Int) := by omega
            have q4 : ((c : Int) == 0) = false := by simp; omega
            clear h
            cases hodd : U % 2 with
            | zero =>
              have hN : bits .and .u64 (U : Int) 1 = 0 := by rw [b_and1 U, hodd]; rfl
              have hX : bits .xor .i64 (H : Int) 0 = decZ U := by rw [b_xorI_0 H hH]; unfold decZ; rw [if_neg (by omega)]; omega
              clear hodd hf hc hlt hUV hU64
              go_wp2_with fail
              go_ret
              exact HQ.out
            | succ m =>
              have hN : bits .and .u64 (U : Int) 1 = 1 := by rw [b_and1 U, show U % 2 = 1 by omega]; rfl
              have hX : bits .xor .i64 (H : Int) (-1) = decZ U := by rw [b_xorI_1 H hH]; unfold decZ; rw [if_pos (by omega)]; omega
              clear hodd hf hc hlt hUV hU64
              go_wp2_with fail
              go_ret
              exact HQ.out
        · rw [if_neg hlt] at HE
          have hcm : c % 128 = c - 128 := by omega
          rw [hcm] at hUV
          have q5 : ¬ (c : Int) < 128 := by omega
          have hi9 : i ≠ 9 := by omega
          have HNX : Hid (NbSt R bs rest w w1 (i + 1) U t) := ⟨HST.out, HK1.out, by rw [HE.out, hUV], by omega, by
            have hu := HP.out.hu
            have hp : 128 ^ (i + 1) = 127 * 128 ^ i + 128 ^ i := by rw [Nat.pow_succ]; omega
            have := Nat.mul_le_mul_right (128 ^ i) (show c - 128 ≤ 127 by omega)
            omega⟩
          have hw7 : IntKind.i64.wrap (7 * (i : Int) + 7) = 7 * ((i + 1 : Nat) : Int) := by rw [IntWalk.i64_in _ (by omega)]; omega
          clear HE hcm
          rcases (show (i = 0) ∨ (i ≠ 9 ∧ 0 < i ∧ c ≠ 0) by omega) with h | h
          · have q1 : (7 * (i : Int) == 63) = false := by simp; omega
            have q3 : ¬ (0 : Int) < 7 * (i : Int) := by omega
            clear h hf hc hlt hUV hU64 hi9
            go_wp2_with fail
            go_roundg t.length
            case rel => exact ⟨i + 1, U, t, rfl, rfl, by go_num, HNX⟩
            case measure => have := HT.out; simp only [List.length_cons] at this; omega
          · have q1 : (7 * (i : Int) == 63) = false := by simp; omega
            have q3 : (0 : Int) < 7 * (i : Int) := by omega
            have q4 : ((c : Int) == 0) = false := by simp; omega
            clear h hf hc hlt hUV hU64 hi9
            go_wp2_with fail
            go_roundg t.length
            case rel => exact ⟨i + 1, U, t, rfl, rfl, by go_num, HNX⟩
            case measure => have := HT.out; simp only [List.length_cons] at this; omega
end Go.Proofs.Ytadikcioacaphaa
