/-
  What a reader of the document's answer for chapter 8 is, and what begin, fail and int of it do (gens88.py writes this text). Conditions: at most 2^40 bytes.
-/
import Derived.Test.YtadikcioacaphaaWalkRq
namespace Go.Proofs.Ytadikcioacaphaa
open Go.RowKit

/-- A reader without an error. -/
structure QdOk (R : Nat) (w : World) (bs rest : List Nat) : Prop where
  rd : RdSt R w bs rest
  c2 : w.cell? ⟨R, 2, none⟩ = some (.int .i64 0)
  f2 : w.frozen? ⟨R, 2, none⟩ = false
/-- A reader with an error. -/
structure QdEr (R : Nat) (w : World) (k : Nat) : Prop where
  c0 : ∃ A n c, w.cell? ⟨R, 0, none⟩ = some (.slice A n c)
  c1 : ∃ z, w.cell? ⟨R, 1, none⟩ = some (.int .i64 z)
  c2 : w.cell? ⟨R, 2, none⟩ = some (.int .i64 (k : Nat))
  pos : 0 < k
def Qd (R : Nat) (w : World) (bs : List Nat) (s : RR Unit) : Prop :=
  match s with
  | .ok _ rest => QdOk R w bs rest
  | .err k => QdEr R w k
theorem QdOk.still {R : Nat} {w w' : World} {bs rest : List Nat} (h : QdOk R w bs rest) (hb : ∀ k, k ≤ R → w'.heap[k]? = w.heap[k]?) : QdOk R w' bs rest :=
  ⟨h.rd.still hb, (World.cell?_of_block (w := w) (a := ⟨R, 2, none⟩) (hb R (Nat.le_refl _))).trans h.c2, (World.frozen?_of_block (w := w) (a := ⟨R, 2, none⟩) (hb R (Nat.le_refl _))).trans h.f2⟩
theorem QdEr.still {R : Nat} {w w' : World} {k : Nat} (h : QdEr R w k) (hb : w'.heap[R]? = w.heap[R]?) : QdEr R w' k := by
  have hc : ∀ j, w'.cell? ⟨R, j, none⟩ = w.cell? ⟨R, j, none⟩ := fun j => World.cell?_of_block (w := w) (a := ⟨R, j, none⟩) hb
  obtain ⟨A, n, c, h0⟩ := h.c0
  obtain ⟨z, h1⟩ := h.c1
  exact ⟨⟨A, n, c, (hc 0).trans h0⟩, ⟨z, (hc 1).trans h1⟩, (hc 2).trans h.c2, h.pos⟩
theorem Qd.still {R : Nat} {w w' : World} {bs : List Nat} {s : RR Unit} (h : Qd R w bs s) (hb : ∀ k, k ≤ R → w'.heap[k]? = w.heap[k]?) : Qd R w' bs s := by
  cases s with
  | ok u rest => exact QdOk.still h hb
  | err k => exact QdEr.still h (hb R (Nat.le_refl _))
theorem Qd.lt {R : Nat} {w : World} {bs : List Nat} {s : RR Unit} (h : Qd R w bs s) : R < w.heap.size := by
  cases s with
  | ok u rest => exact QdOk.rd h |>.lt
  | err k =>
    obtain ⟨z, h1⟩ := QdEr.c1 h
    exact World.block_lt_of_cell? w _ h1
theorem Qd.below {R : Nat} {w w' : World} {bs : List Nat} {s : RR Unit} (h : Qd R w bs s) (hb : Below w.heap.size w w') : Qd R w' bs s := h.still fun k hk => hb.block k (by have := h.lt; omega)
/-- The state behind a number. -/
def intS (s : RR Unit) : RR Int := match s with | .ok _ r => numS r | .err k => .err k
def numsQ (n : Nat) (s : RR Unit) : RR (List Int) := match s with | .ok _ r => numsS n r | .err k => .err k
def stU {α : Type} (r : RR α) : RR Unit := match r with | .ok _ t => .ok () t | .err k => .err k
/-- Numbers that are read one after another. -/
def Chn : RR Unit → List Int → RR Unit → Prop
  | s, [], s' => s' = s
  | s, z :: zs, s' => (∀ z' t, intS s = .ok z' t → z = z') ∧ Chn (stU (intS s)) zs s'
theorem Chn.nums : ∀ {zs : List Int} {s s' : RR Unit}, Chn s zs s' → s' = stU (numsQ zs.length s) ∧ ∀ vs t, numsQ zs.length s = .ok vs t → vs = zs
  | [], s, s', h => by
    simp only [Chn] at h
    subst h
    cases s' with
    | ok u r => exact ⟨rfl, fun vs t h => by simp only [numsQ, numsS, List.length_nil] at h; injection h with h1 _; exact h1.symm⟩
    | err k => exact ⟨rfl, fun vs t h => by simp [numsQ] at h⟩
  | z :: zs, s, s', h => by
    obtain ⟨h1, h2⟩ := h
    obtain ⟨h3, h4⟩ := Chn.nums h2
    cases s with
    | err k => exact ⟨by rw [h3]; rfl, fun vs t h => by simp [numsQ] at h⟩
    | ok u r =>
      simp only [intS] at h1 h3 h4
      simp only [numsQ, List.length_cons, numsS]
      cases hn : numS r with
      | err k =>
        rw [hn] at h3
        exact ⟨by rw [h3]; rfl, fun vs t h => by simp [RR.bind] at h⟩
      | ok v r1 =>
        rw [hn] at h3 h4 h1
        have hz := h1 v r1 rfl
        subst hz
        simp only [stU, numsQ] at h3 h4
        simp only [RR.bind]
        cases hm : numsS zs.length r1 with
        | err k => rw [hm] at h3; exact ⟨h3, fun vs t h => by simp at h⟩
        | ok vs r2 =>
          rw [hm] at h3 h4
          refine ⟨h3, fun vs' t h => ?_⟩
          simp only at h
          injection h with h5 _
          rw [← h5, h4 vs r2 rfl]

set_option maxHeartbeats 400000 in
set_option maxRecDepth 100000 in
theorem fail_q (R k : Nat) (A : Option Addr) (n c : Nat) (z : Int) (w : World) (c0 : w.cell? ⟨R, 0, none⟩ = some (.slice A n c)) (c1 : w.cell? ⟨R, 1, none⟩ = some (.int .i64 z)) (c2 : w.cell? ⟨R, 2, none⟩ = some (.int .i64 0)) (f2 : w.frozen? ⟨R, 2, none⟩ = false) (hk : 0 < k) :
    Calls Try.prog 53 #[.pointer (some ⟨R, 0, none⟩), .int .i64 (k : Nat)] w fun e w' => e = .returned (.int .i64 0) ∧ QdEr R w' k ∧ Keep R w w' := by
  have hR : R < w.heap.size := World.block_lt_of_cell? w _ c2
  have HQ : Hid (QdEr R (w.setCell ⟨R, 2, none⟩ (.int .i64 (k : Nat))) k ∧ Keep R w (w.setCell ⟨R, 2, none⟩ (.int .i64 (k : Nat)))) :=
    ⟨⟨⟨A, n, c, (World.cell?_setCell_other _ _ _ _ (by simp)).trans c0⟩, ⟨z, (World.cell?_setCell_other _ _ _ _ (by simp)).trans c1⟩, World.cell?_setCell_same _ _ _ c2, hk⟩, (Keep.refl R w).setR rfl _⟩
  go_enter Try.func53, Try.ntmps53
  go_wp2_with fail
  go_ret
  exact ⟨rfl, HQ.out⟩

theorem fail_ok {R : Nat} {bs t : List Nat} {w : World} (h : QdOk R w bs t) (k : Nat) (hk : 0 < k) :
    Calls Try.prog 53 #[.pointer (some ⟨R, 0, none⟩), .int .i64 (k : Nat)] w fun e w' => e = .returned (.int .i64 0) ∧ QdEr R w' k ∧ Keep R w w' := by
  obtain ⟨A, c, c0, _⟩ := h.rd.c0
  obtain ⟨j, _, c1, _⟩ := h.rd.c1
  exact fail_q R k A bs.length c j w c0 c1 h.c2 h.f2 hk

set_option maxHeartbeats 400000 in
set_option maxRecDepth 100000 in
theorem int_er (R k : Nat) (w : World) (h : QdEr R w k) :
    Calls Try.prog 29 #[.pointer (some ⟨R, 0, none⟩)] w fun e w' => e = .returned (.int .i64 0) ∧ w' = w := by
  have c2 := h.c2
  have hp := h.pos
  have hq : ((k : Int) != 0) = true := by simp; omega
  have hR : R < w.heap.size := World.block_lt_of_cell? w _ c2
  clear h hp
  go_enter Try.func29, Try.ntmps29
  go_wp2_with fail
  go_ret
  exact ⟨rfl, rfl⟩

/-- On the way of a number. -/
structure NqSt (R : Nat) (bs rest : List Nat) (w0 w : World) (i u : Nat) (t : List Nat) : Prop where
  st : QdOk R w bs t
  keep : Keep R w0 w
  eq : numA i u t = numS rest
  hi : i ≤ 9
  hu : u < 128 ^ i
/-- What int of the answer returns. -/
def QI (R : Nat) (bs : List Nat) (r : RR Int) (w : World) (e : Ending) (w' : World) : Prop :=
  ∃ z, e = .returned (.int .i64 z) ∧ (∀ z' t, r = .ok z' t → z = z') ∧ (∀ k, r = .err k → z = 0) ∧ Qd R w' bs (stU r) ∧ Keep R w w'
/-- A byte is taken. -/
theorem QdOk.step {R : Nat} {w : World} {bs r : List Nat} {x k : Nat} (h : QdOk R w bs (x :: r)) (hk : w.cell? ⟨R, 1, none⟩ = some (.int .i64 (k : Nat))) (n : Nat) :
    QdOk R ((w.drewN n).setCell ⟨R, 1, none⟩ (.int .i64 ((k : Int) + 1))) bs r ∧ Keep R w ((w.drewN n).setCell ⟨R, 1, none⟩ (.int .i64 ((k : Int) + 1))) := by
  obtain ⟨h1, h2⟩ := h.rd.step hk n
  have hb : Below w.heap.size w (w.drewN n) := below_drewN (Below.refl _ _) n
  refine ⟨⟨h1, ?_, ?_⟩, h2⟩
  · rw [World.cell?_setCell_other _ _ _ _ (by simp)]
    exact (hb.cell (p := ⟨R, 2, none⟩) h.rd.lt).trans h.c2
  · rw [World.frozen?_setCell]
    exact (hb.frozen (p := ⟨R, 2, none⟩) h.rd.lt).trans h.f2
theorem QdOk.at {R : Nat} {w : World} {bs r : List Nat} (h : QdOk R w bs r) : ∃ A c k n, w.cell? ⟨R, 0, none⟩ = some (.slice A n c) ∧ w.cell? ⟨R, 1, none⟩ = some (.int .i64 (k : Nat)) ∧ k ≤ n ∧ n ≤ 1099511627776 ∧ r.length = n - k ∧ R < w.heap.size ∧ n = bs.length ∧ w.cell? ⟨R, 2, none⟩ = some (.int .i64 0) ∧ w.frozen? ⟨R, 2, none⟩ = false ∧ w.frozen? ⟨R, 1, none⟩ = false ∧ ∀ x t, r = x :: t → ∃ b o, A = some ⟨b, o, none⟩ ∧ w.cell? ⟨b, o + k, none⟩ = some (.int .u8 (x : Nat)) ∧ b < R := by
  obtain ⟨A, c, c0, _, hrw, hA⟩ := h.rd.c0
  obtain ⟨k, hk, c1, hd⟩ := h.rd.c1
  refine ⟨A, c, k, bs.length, c0, c1, hk, h.rd.hl, by rw [← hd, List.length_drop], h.rd.lt, rfl, h.c2, h.f2, h.rd.f1, fun x t e => ?_⟩
  subst e
  obtain ⟨hlt, hx, _⟩ := drop_cons' hd
  obtain ⟨b, o, rfl, hcell⟩ := hrw.byte hlt
  rw [hx] at hcell
  exact ⟨b, o, rfl, hcell, hA b o rfl⟩

set_option maxHeartbeats 4000000 in
set_option maxRecDepth 100000 in
theorem int_ok (R : Nat) (bs rest : List Nat) (w : World) (h : QdOk R w bs rest) :
    Calls Try.prog 29 #[.pointer (some ⟨R, 0, none⟩)] w (QI R bs (numS rest) w) := by
  have H0 : Hid (NqSt R bs rest w w 0 0 rest) := ⟨h, Keep.refl _ _, rfl, by decide, by decide⟩
  have hle := Nat.le_trans h.rd.rest_le.1 h.rd.hl
  have c2 := h.c2
  have hR := h.rd.lt
  obtain ⟨L, hL⟩ : ∃ L, rest.length = L := ⟨_, rfl⟩
  have HLL := Lib.hid hL
  clear h hL hle
  go_enter Try.func29, Try.ntmps29
  go_wp2_with fail
  clear c2 hR
  go_loopg [3, 4] L (fun g a b wr => ∃ (i u : Nat) (t : List Nat), t.length = g ∧ a = .int .u64 u ∧ b = .int .i64 (i : Int) ∧ Hid (NqSt R bs rest w wr i u t))
  case atStart => exact ⟨0, 0, rest, HLL.out, rfl, rfl, H0⟩
  case round =>
    obtain ⟨i, u, t, ht, rfl, rfl, HP⟩ := hrel
    have HT := Lib.hid ht
    have hi := HP.out.hi
    have hi10 : (i : Int) < 10 := by omega
    obtain ⟨A, c, k, n, c0, c1, hkn, hn40, hrl, hRl, hnb, c2, f2, f1, hby⟩ := HP.out.st.at
    clear ht
    cases t with
    | nil =>
      have hge : (n : Int) ≤ (k : Int) := by simp at hrl; omega
      have HQ : Hid (∀ w', QdEr R w' 8 ∧ Keep R wr w' → QI R bs (numS rest) w (.returned (.int .i64 0)) w') := fun w' hb => by
        rw [← HP.out.eq]
        exact ⟨0, rfl, fun z' t h => by simp [numA] at h, fun _ _ => rfl, hb.1, HP.out.keep.trans hb.2⟩
      have HST0 := Lib.hid HP.out.st
      clear hrl hby hnb
      go_wp2_with fail
      go_quiet (fail)
      go_wp2_with fail
      refine (fail_ok (HST0.out.still fun k hk => (below_drewN (Below.refl wr.heap.size _) _).block k (by omega)) 8 (by decide)).mono ?_
      rintro e w1 ⟨rfl, he, hk⟩
      have HQ1 := Lib.hid (HQ.out w1 ⟨he, ((Keep.refl R wr).drewN _).trans hk⟩)
      clear he hk HQ
      go_wp2_with fail
      go_ret
      exact HQ1.out
    | cons x t =>
      obtain ⟨b, o, rfl, hcell, hbR⟩ := hby x t rfl
      have hx255 := HP.out.st.rd.rest_le.2 x (List.mem_cons_self ..)
      have hlt : ¬ (n : Int) ≤ (k : Int) := by simp at hrl; omega
      have hq : k < n := by omega
      have hw1 : IntKind.i64.wrap ((k : Int) + 1) = (k : Int) + 1 := IntWalk.i64_in _ (by omega)
      have hbs : b < wr.heap.size := by omega
      have HSTEP := Lib.hid (HP.out.st.step c1)
      have HE : Hid (numS rest = if (i = 9 ∧ 1 < x) ∨ (0 < i ∧ x = 0) then .err 9 else if x < 128 then .ok (decZ (u + x * 128 ^ i)) t else numA (i + 1) (u + (x - 128) * 128 ^ i) t) := HP.out.eq.symm
      clear hrl hby hnb c2 f2
      go_wp2_with fail
      go_quiet (fail)
      obtain ⟨nq1, hnq1⟩ : ∃ q, q = nq := ⟨nq, rfl⟩
      rw [← hnq1]
      clear hnq1 nq
      go_wp2_with fail
      go_quiet (fail)
      go_upto_region 11 with fail
      obtain ⟨hs1, hk1⟩ := HSTEP.out (nq1 + nq)
      obtain ⟨w1, hw9⟩ : ∃ x, (wr.drewN (nq1 + nq)).setCell ⟨R, 1, none⟩ (.int .i64 ((k : Int) + 1)) = x := ⟨_, rfl⟩
      rw [hw9] at hs1 hk1
      try simp only [hw9]
      clear hw9
      have HS1 := Lib.hid hs1
      have HK1 := Lib.hid hk1
      clear hs1 hk1 HSTEP c0 c1 hcell f1 hRl hbR hbs hlt hq hw1 hkn hn40
      have hA : bits .and .u8 (x : Int) 127 = ((x % 128 : Nat) : Int) := b_and8 x (by omega)
      have hfit := shl_fit (c := x % 128) hi (by omega)
      by_cases h91 : i = 9 ∧ 1 < x
      · have hq1 : ((i : Int) == 9) = true := by simp; omega
        have hq2 : (1 : Int) < (x : Int) := by omega
        have HQ : Hid (∀ w', QdEr R w' 9 ∧ Keep R wr w' → QI R bs (numS rest) w (.returned (.int .i64 0)) w') := fun w' hb => by
          rw [HE.out, if_pos (.inl h91)]
          exact ⟨0, rfl, fun z' t h => by simp at h, fun _ _ => rfl, hb.1, HP.out.keep.trans hb.2⟩
        clear h91 HE hfit hA
        go_wp2_with fail
        refine (fail_ok HS1.out 9 (by decide)).mono ?_
        rintro e w2 ⟨rfl, he, hk⟩
        have HQ1 := Lib.hid (HQ.out w2 ⟨he, HK1.out.trans hk⟩)
        clear he hk HQ
        go_wp2_with fail
        go_ret
        exact HQ1.out
      have hfit := hfit (fun h => by omega)
      obtain ⟨U, hUV⟩ : ∃ U, u + (x % 128) * 128 ^ i = U := ⟨_, rfl⟩
      have hu := HP.out.hu
      have hp9 := pow_le9 hi
      have hU64 : U < 18446744073709551616 := by
        by_cases h9 : i = 9
        · have hc1 : x % 128 ≤ 1 := by omega
          have h3 : (x % 128) * 128 ^ i ≤ 1 * 128 ^ i := Nat.mul_le_mul_right _ hc1
          omega
        · have := hfit.2 h9
          omega
      have hO : bits .or .u64 (u : Int) (IntKind.u64.wrap ((x : Int) % 128 * 2 ^ (7 * i))) = (U : Int) := by
        have e : (x : Int) % 128 * 2 ^ (7 * i) = ((x % 128 * 2 ^ (7 * i) : Nat) : Int) := by simp
        have h1 : x % 128 * 2 ^ (7 * i) < 18446744073709551616 := by rw [← pow_two]; exact hfit.1
        rw [e, wrapU h1, b_or64 _ _ (by omega) h1, or_low hu, hUV]
      have q6 : 7 * (i : Int) ≤ 63 := by omega
      clear hfit hu hp9
      by_cases hf : 0 < i ∧ x = 0
      · have hq2 : ¬ (1 : Int) < (x : Int) := by omega
        have hq3 : ((x : Int) == 0) = true := by simp; omega
        have hq4 : (0 : Int) < (i : Int) := by omega
        have hq5 : (x : Int) < 128 := by omega
        obtain ⟨b9, q1⟩ : ∃ b, ((i : Int) == 9) = b := ⟨_, rfl⟩
        have HQ : Hid (∀ w', QdEr R w' 9 ∧ Keep R wr w' → QI R bs (numS rest) w (.returned (.int .i64 0)) w') := fun w' hb => by
          rw [HE.out, if_pos (.inr hf)]
          exact ⟨0, rfl, fun z' t h => by simp at h, fun _ _ => rfl, hb.1, HP.out.keep.trans hb.2⟩
        clear h91 hf HE hUV hU64 hx255
        cases b9
        all_goals
          go_wp2_with fail
          refine (fail_ok HS1.out 9 (by decide)).mono ?_
          rintro e w2 ⟨rfl, he, hk⟩
          have HQ1 := Lib.hid (HQ.out w2 ⟨he, HK1.out.trans hk⟩)
          clear he hk HQ
          go_wp2_with fail
          go_ret
          exact HQ1.out
      rw [if_neg (by omega)] at HE
      obtain ⟨H, hdiv0⟩ : ∃ H, U / 2 = H := ⟨_, rfl⟩
      have hH : H < 9223372036854775808 := by omega
      have hdiv : (U : Int) / 2 = (H : Int) := by omega
      by_cases hlt8 : x < 128
      · rw [if_pos hlt8] at HE
        have hcm : x % 128 = x := Nat.mod_eq_of_lt hlt8
        rw [hcm] at hUV
        have HQ : Hid (QI R bs (numS rest) w (.returned (.int .i64 (decZ U))) w1) := by
          show QI _ _ _ _ _ _
          rw [HE.out, hUV]
          exact ⟨_, rfl, fun z' t h => by injection h, (fun _ h => by cases h), HS1.out, HP.out.keep.trans HK1.out⟩
        have q5 : (x : Int) < 128 := by omega
        clear HE hcm
        rcases (show (i = 9 ∧ x = 1) ∨ (i = 0) ∨ (i ≠ 9 ∧ 0 < i ∧ x ≠ 0) by omega) with h | h | h
        · have q1 : ((i : Int) == 9) = true := by simp; omega
          have q2 : ¬ (1 : Int) < (x : Int) := by omega
          have q4 : ((x : Int) == 0) = false := by simp; omega
          clear h h91
          cases hodd : U % 2 with
          | zero =>
            have hN : bits .and .u64 (U : Int) 1 = 0 := by rw [b_and1 U, hodd]; rfl
            have hX : (H : Int) = decZ U := by unfold decZ; rw [if_neg (by omega)]; omega
            have HX := Lib.hid hX
            clear hodd hX hf hlt8 hUV hU64 hx255
            go_wp2_with fail
            go_ret
            rw [HX.out]
            exact HQ.out
          | succ m =>
            have hN : bits .and .u64 (U : Int) 1 = 1 := by rw [b_and1 U, show U % 2 = 1 by omega]; rfl
            obtain ⟨M, hM⟩ : ∃ M, 18446744073709551615 - H = M := ⟨_, rfl⟩
            have hX : bits .xor .u64 IntKind.u64.max (H : Int) = (M : Int) := by rw [show IntKind.u64.max = 18446744073709551615 by decide, b_notM H (by omega), hM]
            have hW : wrap64 (M : Int) = decZ U := by
              have e : (M : Int) = 18446744073709551615 - (H : Int) := by omega
              unfold decZ
              rw [if_pos (by omega), hdiv0, e]
              simp [wrap64]
              omega
            clear hodd hf hlt8 hUV hU64 hx255 hM
            go_wp2_with fail
            go_ret
            exact HQ.out
        · have q1 : ((i : Int) == 9) = false := by simp; omega
          have q3 : ¬ (0 : Int) < (i : Int) := by omega
          obtain ⟨b4, q4⟩ : ∃ b, ((x : Int) == 0) = b := ⟨_, rfl⟩
          clear h h91
          cases b4
          all_goals
            cases hodd : U % 2 with
            | zero =>
              have hN : bits .and .u64 (U : Int) 1 = 0 := by rw [b_and1 U, hodd]; rfl
              have hX : (H : Int) = decZ U := by unfold decZ; rw [if_neg (by omega)]; omega
              have HX := Lib.hid hX
              clear hodd hX hf hlt8 hUV hU64 hx255
              go_wp2_with fail
              go_ret
              rw [HX.out]
              exact HQ.out
            | succ m =>
              have hN : bits .and .u64 (U : Int) 1 = 1 := by rw [b_and1 U, show U % 2 = 1 by omega]; rfl
              obtain ⟨M, hM⟩ : ∃ M, 18446744073709551615 - H = M := ⟨_, rfl⟩
              have hX : bits .xor .u64 IntKind.u64.max (H : Int) = (M : Int) := by rw [show IntKind.u64.max = 18446744073709551615 by decide, b_notM H (by omega), hM]
              have hW : wrap64 (M : Int) = decZ U := by
                have e : (M : Int) = 18446744073709551615 - (H : Int) := by omega
                unfold decZ
                rw [if_pos (by omega), hdiv0, e]
                simp [wrap64]
                omega
              clear hodd hf hlt8 hUV hU64 hx255 hM
              go_wp2_with fail
              go_ret
              exact HQ.out
        · have q1 : ((i : Int) == 9) = false := by simp; omega
          have q4 : ((x : Int) == 0) = false := by simp; omega
          clear h h91
          cases hodd : U % 2 with
          | zero =>
            have hN : bits .and .u64 (U : Int) 1 = 0 := by rw [b_and1 U, hodd]; rfl
            have hX : (H : Int) = decZ U := by unfold decZ; rw [if_neg (by omega)]; omega
            have HX := Lib.hid hX
            clear hodd hX hf hlt8 hUV hU64 hx255
            go_wp2_with fail
            go_ret
            rw [HX.out]
            exact HQ.out
          | succ m =>
            have hN : bits .and .u64 (U : Int) 1 = 1 := by rw [b_and1 U, show U % 2 = 1 by omega]; rfl
            obtain ⟨M, hM⟩ : ∃ M, 18446744073709551615 - H = M := ⟨_, rfl⟩
            have hX : bits .xor .u64 IntKind.u64.max (H : Int) = (M : Int) := by rw [show IntKind.u64.max = 18446744073709551615 by decide, b_notM H (by omega), hM]
            have hW : wrap64 (M : Int) = decZ U := by
              have e : (M : Int) = 18446744073709551615 - (H : Int) := by omega
              unfold decZ
              rw [if_pos (by omega), hdiv0, e]
              simp [wrap64]
              omega
            clear hodd hf hlt8 hUV hU64 hx255 hM
            go_wp2_with fail
            go_ret
            exact HQ.out
      · rw [if_neg hlt8] at HE
        have hcm : x % 128 = x - 128 := by omega
        rw [hcm] at hUV
        have q5 : ¬ (x : Int) < 128 := by omega
        have hi9 : i ≠ 9 := by omega
        have q1 : ((i : Int) == 9) = false := by simp; omega
        have HNX : Hid (NqSt R bs rest w w1 (i + 1) U t) := ⟨HS1.out, HP.out.keep.trans HK1.out, by rw [HE.out, hUV], by omega, by
          have hu := HP.out.hu
          have hp : 128 ^ (i + 1) = 127 * 128 ^ i + 128 ^ i := by rw [Nat.pow_succ]; omega
          have := Nat.mul_le_mul_right (128 ^ i) (show x - 128 ≤ 127 by omega)
          omega⟩
        clear HE hcm h91 hf hlt8 hUV hU64 hi9 hx255
        go_wp2_with fail
        go_roundg t.length
        case rel => exact ⟨i + 1, U, t, rfl, rfl, by go_num, HNX⟩
        case measure => have := HT.out; simp only [List.length_cons] at this; omega
end Go.Proofs.Ytadikcioacaphaa
