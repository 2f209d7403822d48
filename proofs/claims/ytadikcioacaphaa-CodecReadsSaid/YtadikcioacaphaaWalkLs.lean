/-
  What list of package codec reads: a number of elements and their numbers, or the first error (gens83.py writes this text). Conditions: at most 2^40 bytes.
-/
import Derived.Test.YtadikcioacaphaaWalkRl8
namespace Go.Proofs.Ytadikcioacaphaa
open Go.RowKit

theorem numsS_add : ∀ (a b : Nat) (l : List Nat), numsS (a + b) l = (numsS a l).bind fun vs r => (numsS b r).bind fun vs' r' => .ok (vs ++ vs') r'
  | 0, b, l => by
    simp only [Nat.zero_add, numsS, RR.bind]
    cases numsS b l <;> rfl
  | a + 1, b, l => by
    rw [show a + 1 + b = a + b + 1 by omega]
    simp only [numsS]
    cases h1 : numS l with
    | err k => rfl
    | ok v r =>
      simp only [RR.bind]
      rw [numsS_add a b r]
      cases h2 : numsS a r with
      | err k => rfl
      | ok vs r2 =>
        simp only [RR.bind]
        cases h3 : numsS b r2 <;> rfl
/-- Elements of k numbers each that lie in memory of the call's own. -/
def VList (T : TypeId) (k base : Nat) : World → List Int → Value → Prop := fun w zs v => ∃ n, zs.length = k * n ∧ n ≤ 1099511627776 ∧ w.ownsRow base T k v n (zs.map (Value.int .i64))
/-- On the way of a list: i elements are there, g are to be read. -/
structure LsSt (R : Nat) (T : TypeId) (kk : Nat) (bs rest : List Nat) (N : Nat) (w0 w : World) (v : Value) (i g : Nat) (t : List Nat) : Prop where
  st : RdSt R w bs t
  keep : Keep R w0 w
  lt : R < w0.heap.size
  own : ∃ zs : List Int, zs.length = kk * i ∧ w.ownsRow w0.heap.size T kk v i (zs.map (Value.int .i64)) ∧ numsS (kk * N) rest = (numsS (kk * g) t).bind fun vs r => .ok (zs ++ vs) r
theorem Keep.grown {R : Nat} {a b c : World} {row : Option Nat} (h : Keep R a b) (hg : b.grownBy c row) (hr : ∀ k, row = some k → a.heap.size ≤ k) : Keep R a c :=
  ⟨hg.os.trans h.os, hg.tape.trans h.tape, hg.output.trans h.output, Nat.le_trans h.size hg.size, fun k hk hne => (hg.block k (Nat.lt_of_lt_of_le hk h.size) (fun e => by have := hr k e.symm; omega)).trans (h.block k hk hne)⟩
theorem LsSt.push {R kk N i g : Nat} {T : TypeId} {bs rest t t' : List Nat} {w0 wr w1 w3 : World} {v v' : Value} {vs : List Int} (h : LsSt R T kk bs rest N w0 wr v i (g + 1) t) (hv : numsS kk t = .ok vs t') (hst : RdSt R w1 bs t') (hk : Keep R wr w1) (o : Obj) (zs : List Int) (hz : zs.length = kk * i) (hq : numsS (kk * N) rest = (numsS (kk * (g + 1)) t).bind fun vs r => .ok (zs ++ vs) r)
    (hown : w3.ownsRow w0.heap.size T kk v' (i + 1) (zs.map (Value.int .i64) ++ vs.map (Value.int .i64))) (hg : (w1.alloc o).grownBy w3 v.ownBlock) (hb : ∀ b, v.ownBlock = some b → w0.heap.size ≤ b) :
    LsSt R T kk bs rest N w0 w3 v' (i + 1) g t' := by
  have hlt := h.lt
  have hk1 : Keep R w0 (w1.alloc o) := (h.keep.trans hk).alloc o
  refine ⟨hst.still fun k hkR => ?_, hk1.grown hg hb, h.lt, zs ++ vs, ?_, by rw [List.map_append]; exact hown, ?_⟩
  · have hs1 := hst.lt
    rw [hg.block k (by rw [new_size]; omega) (fun e => by have := hb k e.symm; omega), alloc_blk _ _ (by omega)]
  · rw [List.length_append, numsS_len hv, hz, Nat.mul_add, Nat.mul_one]
  · rw [hq, show kk * (g + 1) = kk + kk * g by rw [Nat.mul_add, Nat.mul_one, Nat.add_comm], numsS_add, hv]
    simp only [RR.bind]
    cases numsS (kk * g) t' with
    | err k => rfl
    | ok vs2 r2 => simp only [List.append_assoc]
theorem LsSt.fail {R kk N i g ke : Nat} {T : TypeId} {bs rest t : List Nat} {w0 wr : World} {v : Value} (h : LsSt R T kk bs rest N w0 wr v i (g + 1) t) (hv : numsS kk t = .err ke) : numsS (kk * N) rest = .err ke := by
  obtain ⟨zs, _, _, hq⟩ := h.own
  rw [hq, show kk * (g + 1) = kk + kk * g by rw [Nat.mul_add, Nat.mul_one, Nat.add_comm], numsS_add, hv]
  rfl
theorem LsSt.done {R kk N i : Nat} {T : TypeId} {bs rest t : List Nat} {w0 wr : World} {v : Value} (h : LsSt R T kk bs rest N w0 wr v i 0 t) (hi : i = N) (hN : N ≤ 1099511627776) : ∃ zs, numsS (kk * N) rest = .ok zs t ∧ VList T kk w0.heap.size wr zs v := by
  obtain ⟨zs, hz, ho, hq⟩ := h.own
  refine ⟨zs, ?_, i, hz, by omega, ho⟩
  rw [hq]
  simp [numsS, RR.bind]
theorem LsSt.post {R kk N i : Nat} {T : TypeId} {bs r1 rest t : List Nat} {w0 wr : World} {v : Value} (h : LsSt R T kk bs r1 N w0 wr v i 0 t) (hi : i = N) (hN : N ≤ 1099511627776) (hc : rowsS kk rest = numsS (kk * N) r1) : RP R bs (VList T kk w0.heap.size) (rowsS kk rest) w0 (.returned v) wr := by
  obtain ⟨zs, hzs, hv⟩ := h.done hi hN
  rw [hc, hzs]
  exact ⟨_, rfl, hv, h.st, h.keep⟩
theorem numsS_one {l r : List Nat} {v : Int} (h : numS l = .ok v r) : numsS 1 l = .ok [v] r := by simp [numsS, RR.bind, h]
theorem numsS_one_err {l : List Nat} {k : Nat} (h : numS l = .err k) : numsS 1 l = .err k := by simp [numsS, RR.bind, h]
theorem rows_news {w : World} (zs : List Int) (T : TypeId) : ∀ (j : Nat) (u : Value), (zs.map (Value.int .i64))[j]? = some u → (w.alloc (.cells (zs.map (Value.int .i64)).toArray T)).cell? ((⟨w.heap.size, 0, none⟩ : Addr).add j) = some u := fun j u hj => by
  rw [Addr.add_lit]; exact new_cells w _ T j u hj
theorem ints_cell (zs : List Int) : ∀ u ∈ zs.map (Value.int .i64), u.oneCell' = true := by
  intro u hu
  obtain ⟨x, _, rfl⟩ := List.mem_map.1 hu
  rfl
theorem cntR_ok {l r : List Nat} {v : Int} (h : numS l = .ok v r) (h0 : 0 ≤ v) (h1 : v ≤ r.length) : cntR l = .ok v.toNat r := by
  simp only [cntR, RR.bind, h]; rw [if_neg (by omega)]
theorem cntR_no {l r : List Nat} {v : Int} (h : numS l = .ok v r) (h0 : v < 0 ∨ (r.length : Int) < v) : cntR l = .err 9 := by
  simp only [cntR, RR.bind, h]; rw [if_pos h0]
theorem cntR_err {l : List Nat} {k : Nat} (h : numS l = .err k) : cntR l = .err k := by simp only [cntR, RR.bind, h]
theorem rowsS_ok {k n : Nat} {l r : List Nat} (h : cntR l = .ok n r) : rowsS k l = numsS (k * n) r := by simp only [rowsS, RR.bind, h]
theorem rowsS_err {k ke : Nat} {l : List Nat} (h : cntR l = .err ke) : rowsS k l = .err ke := by simp only [rowsS, RR.bind, h]
/-- Where the reader is. -/
theorem RdSt.at {R : Nat} {w : World} {bs r : List Nat} (h : RdSt R w bs r) : ∃ A c k n, w.cell? ⟨R, 0, none⟩ = some (.slice A n c) ∧ w.cell? ⟨R, 1, none⟩ = some (.int .i64 (k : Nat)) ∧ k ≤ n ∧ n ≤ 1099511627776 ∧ r.length = n - k ∧ R < w.heap.size ∧ n = bs.length := by
  obtain ⟨A, c, h0, _⟩ := h.c0
  obtain ⟨k, hk, h1, h2⟩ := h.c1
  exact ⟨A, c, k, bs.length, h0, h1, hk, h.hl, by rw [← h2, List.length_drop], h.lt, rfl⟩
theorem len4r {l : List Int} (h : l.length = 4) : ∃ a0 a1 a2 a3, l = [a0, a1, a2, a3] := by
  match l, h with
  | [a0, a1, a2, a3], _ => exact ⟨a0, a1, a2, a3, rfl⟩
theorem len2r {l : List Int} (h : l.length = 2) : ∃ a0 a1, l = [a0, a1] := by
  match l, h with
  | [a0, a1], _ => exact ⟨a0, a1, rfl⟩
theorem info_listI : (Try.prog.info? 3).map (fun i => (i.zero, i.size, i.bytes)) = some (some (.int .i64 0), 1, 8) := by kernel_rfl

set_option maxHeartbeats 4000000 in
set_option maxRecDepth 100000 in
theorem listI_any (R : Nat) (bs rest : List Nat) (w : World) (h : RdSt R w bs rest) :
    Calls Try.prog 75 #[.pointer (some ⟨R, 0, none⟩), .func (.func 27) #[] #[]] w (RP R bs (VList 3 1 w.heap.size) (rowsS 1 rest) w) := by
  obtain ⟨i0, hinf, hz0, hz1, hz2⟩ := info_parts info_listI
  have HI := Lib.hid hinf
  have HI0 := Lib.hid hz0
  have HI1 := Lib.hid hz1
  have HI2 := Lib.hid hz2
  have H := Lib.hid h
  have HR : Hid (R < w.heap.size) := h.lt
  clear hinf hz0 hz1 hz2 h
  cases hn : numS rest with
  | err ke =>
    have HN := Lib.hid hn
    have HQ : Hid (∀ w', Keep R w w' → RP R bs (VList 3 1 w.heap.size) (rowsS 1 rest) w (.panicked [thrown ke]) w') := fun w' hk => by
      show RP _ _ _ _ _ _ _
      rw [rowsS_err (cntR_err HN.out)]
      exact ⟨rfl, hk⟩
    clear hn
    go_enter Try.func75, Try.ntmps75
    go_wp2_with fail
    refine (number_err H.out HN.out).mono ?_
    rintro e w1 ⟨rfl, hk⟩
    exact ⟨rfl, HQ.out _ hk⟩
  | ok z r1 =>
  have HN := Lib.hid hn
  clear hn
  go_enter Try.func75, Try.ntmps75
  go_wp2_with fail
  refine (number_ok H.out HN.out).mono ?_
  rintro e w1 ⟨rfl, hst, hk⟩
  have HS1 := Lib.hid hst
  have HK1 := Lib.hid hk
  obtain ⟨A, c, k, n, c0, c1, hkn, hn40, hrl, hRl, hnb⟩ := hst.at
  have HNB := Lib.hid hnb
  clear hst hk hnb
  by_cases hbad : z < 0 ∨ (r1.length : Int) < z
  · have HQ : Hid (∀ w', Keep R w w' → RP R bs (VList 3 1 w.heap.size) (rowsS 1 rest) w (.panicked [thrown 9]) w') := fun w' hk => by
      show RP _ _ _ _ _ _ _
      rw [rowsS_err (cntR_no HN.out hbad)]
      exact ⟨rfl, hk⟩
    by_cases hz : z < 0
    · clear hbad hrl
      go_wp2_with fail
      go_quiet (fail)
      go_wp2_with fail
      exact ⟨rfl, HQ.out _ (HK1.out.drewN _)⟩
    · have hgt : (n : Int) - (k : Int) < z := by omega
      have hwr : IntKind.i64.wrap ((n : Int) - (k : Int)) = (n : Int) - (k : Int) := IntWalk.i64_in _ (by omega)
      clear hbad hrl
      go_wp2_with fail
      go_quiet (fail)
      go_wp2_with fail
      exact ⟨rfl, HQ.out _ (HK1.out.drewN _)⟩
  have hz0 : ¬ z < 0 := by omega
  obtain ⟨N, rfl⟩ : ∃ N : Nat, z = (N : Int) := ⟨z.toNat, by omega⟩
  have hgt : ¬ (n : Int) - (k : Int) < (N : Int) := by omega
  have HC : Hid (rowsS 1 rest = numsS (1 * N) r1) := by have := cntR_ok HN.out (by omega) (by omega); rw [Int.toNat_natCast] at this; exact rowsS_ok this
  have hN40 : N ≤ 1099511627776 := by omega
  have hwr : IntKind.i64.wrap ((n : Int) - (k : Int)) = (n : Int) - (k : Int) := IntWalk.i64_in _ (by omega)
  clear hbad hrl HN
  go_wp2_with fail
  go_quiet (fail)
  have HS2 : Hid (LsSt R 3 1 bs r1 N w (w1.drewN nq) (.slice none 0 0) 0 N r1) := ⟨HS1.out.below (below_drewN (Below.refl _ _) _), HK1.out.drewN _, HR.out, [], rfl, World.ownsRow_nil _ _ _ _, by cases numsS (1 * N) r1 <;> rfl⟩
  clear c0 c1 hwr
  go_wp2_with fail
  clear hkn hn40 hRl hgt hz0
  go_loopg [6, 28] N (fun g a b wr => ∃ (i : Nat) (t : List Nat), i + g = N ∧ b = .int .i64 i ∧ Hid (LsSt R 3 1 bs r1 N w wr a i g t))
  case atStart => exact ⟨0, r1, by omega, rfl, HS2⟩
  case round =>
    obtain ⟨i, t, hig, rfl, HP⟩ := hrel
    cases gk with
    | zero =>
      have hiN : i = N := by omega
      have HQ := Lib.hid (HP.out.post hiN hN40 HC.out)
      subst hiN
      have hnn : ¬ (i : Int) < (i : Int) := by omega
      clear hig
      go_wp2_with fail
      go_ret
      exact HQ.out
    | succ g =>
      have hlt : (i : Int) < (N : Int) := by omega
      have HG := Lib.hid hig
      obtain ⟨zs, hzl, hown, heq⟩ := HP.out.own
      obtain ⟨V, vc, rfl⟩ := own_slice hown
      have HZL := Lib.hid hzl
      have HOW := Lib.hid hown
      have HEQ := Lib.hid heq
      have HOB : Hid (∀ b, Value.ownBlock (.slice V i vc) = some b → w.heap.size ≤ b) := fun b hb => (hown.lt b hb).1
      clear hzl hown heq hig
      cases hn : numS t with
      | err ke =>
        have HN := Lib.hid hn
        have HQ : Hid (∀ w', Keep R wr w' → RP R bs (VList 3 1 w.heap.size) (rowsS 1 rest) w (.panicked [thrown ke]) w') := fun w' hk => by
          show RP _ _ _ _ _ _ _
          rw [HC.out, HP.out.fail (numsS_one_err HN.out)]
          exact ⟨rfl, HP.out.keep.trans hk⟩
        clear hn
        go_wp2_with fail
        refine (number_err HP.out.st HN.out).mono ?_
        rintro e w5 ⟨rfl, hk⟩
        exact ⟨rfl, HQ.out _ hk⟩
      | ok a0 t' =>
      have HN := Lib.hid (numsS_one hn)
      have HN' := Lib.hid hn
      clear hn
      go_wp2_with fail
      refine (number_ok HP.out.st HN'.out).mono ?_
      rintro e w5 ⟨rfl, hst, hk⟩
      have HST := Lib.hid hst
      have HK5 := Lib.hid hk
      have HSZ : Hid (w.heap.size ≤ w5.heap.size) := (HP.out.keep.trans hk).size
      have HOW5 := Lib.hid (own_bel (own_keep HOW.out hk HR.out) (rp_one1 w5 (.cells #[.int .i64 a0] 3)))
      clear hst hk
      go_wp2_with (at_builtin; refine wpList_append_own_at _ rfl (.tmp 30) (.tmp 34) 25 rfl w.heap.size 3 i0 _ 1 8 Try.underlying25 HI.out HI0.out HI1.out HI2.out rfl (by decide) (.slice V i vc) i (zs.map (Value.int .i64)) (by simp [Act.eval]) HOW5.out ⟨w5.heap.size, 0, none⟩ 1 1 ([a0].map (Value.int .i64)) (by simp [Act.eval]) rfl (rows_news [a0] _) (ints_cell _) (by unfold maxLen; omega) (by omega) (by have := HSZ.out; simp only [new_size]; omega) ?_; intro v9 w9 hown9 hgrow9 hnil9 hob9; have HO9 := Lib.hid hown9; have HG9 := Lib.hid hgrow9; clear hown9 hgrow9 hob9 hnil9)
      have HR9 := Lib.hid (HP.out.push HN.out HST.out HK5.out _ zs HZL.out HEQ.out HO9.out HG9.out HOB.out)
      go_roundg g
      case rel => exact ⟨i + 1, t', by have := HG.out; omega, by go_num, HR9⟩
      case measure => omega
theorem info_listO : (Try.prog.info? 75).map (fun i => (i.zero, i.size, i.bytes)) = some (some (.agg #[.int .i64 0, .int .i64 0]), 2, 16) := by kernel_rfl

set_option maxHeartbeats 4000000 in
set_option maxRecDepth 100000 in
theorem listO_any (R : Nat) (bs rest : List Nat) (w : World) (h : RdSt R w bs rest) :
    Calls Try.prog 79 #[.pointer (some ⟨R, 0, none⟩), .func (.func 80) #[] #[]] w (RP R bs (VList 75 2 w.heap.size) (rowsS 2 rest) w) := by
  obtain ⟨i0, hinf, hz0, hz1, hz2⟩ := info_parts info_listO
  have HI := Lib.hid hinf
  have HI0 := Lib.hid hz0
  have HI1 := Lib.hid hz1
  have HI2 := Lib.hid hz2
  have H := Lib.hid h
  have HR : Hid (R < w.heap.size) := h.lt
  clear hinf hz0 hz1 hz2 h
  cases hn : numS rest with
  | err ke =>
    have HN := Lib.hid hn
    have HQ : Hid (∀ w', Keep R w w' → RP R bs (VList 75 2 w.heap.size) (rowsS 2 rest) w (.panicked [thrown ke]) w') := fun w' hk => by
      show RP _ _ _ _ _ _ _
      rw [rowsS_err (cntR_err HN.out)]
      exact ⟨rfl, hk⟩
    clear hn
    go_enter Try.func79, Try.ntmps79
    go_wp2_with fail
    refine (number_err H.out HN.out).mono ?_
    rintro e w1 ⟨rfl, hk⟩
    exact ⟨rfl, HQ.out _ hk⟩
  | ok z r1 =>
  have HN := Lib.hid hn
  clear hn
  go_enter Try.func79, Try.ntmps79
  go_wp2_with fail
  refine (number_ok H.out HN.out).mono ?_
  rintro e w1 ⟨rfl, hst, hk⟩
  have HS1 := Lib.hid hst
  have HK1 := Lib.hid hk
  obtain ⟨A, c, k, n, c0, c1, hkn, hn40, hrl, hRl, hnb⟩ := hst.at
  have HNB := Lib.hid hnb
  clear hst hk hnb
  by_cases hbad : z < 0 ∨ (r1.length : Int) < z
  · have HQ : Hid (∀ w', Keep R w w' → RP R bs (VList 75 2 w.heap.size) (rowsS 2 rest) w (.panicked [thrown 9]) w') := fun w' hk => by
      show RP _ _ _ _ _ _ _
      rw [rowsS_err (cntR_no HN.out hbad)]
      exact ⟨rfl, hk⟩
    by_cases hz : z < 0
    · clear hbad hrl
      go_wp2_with fail
      go_quiet (fail)
      go_wp2_with fail
      exact ⟨rfl, HQ.out _ (HK1.out.drewN _)⟩
    · have hgt : (n : Int) - (k : Int) < z := by omega
      have hwr : IntKind.i64.wrap ((n : Int) - (k : Int)) = (n : Int) - (k : Int) := IntWalk.i64_in _ (by omega)
      clear hbad hrl
      go_wp2_with fail
      go_quiet (fail)
      go_wp2_with fail
      exact ⟨rfl, HQ.out _ (HK1.out.drewN _)⟩
  have hz0 : ¬ z < 0 := by omega
  obtain ⟨N, rfl⟩ : ∃ N : Nat, z = (N : Int) := ⟨z.toNat, by omega⟩
  have hgt : ¬ (n : Int) - (k : Int) < (N : Int) := by omega
  have HC : Hid (rowsS 2 rest = numsS (2 * N) r1) := by have := cntR_ok HN.out (by omega) (by omega); rw [Int.toNat_natCast] at this; exact rowsS_ok this
  have hN40 : N ≤ 1099511627776 := by omega
  have hwr : IntKind.i64.wrap ((n : Int) - (k : Int)) = (n : Int) - (k : Int) := IntWalk.i64_in _ (by omega)
  clear hbad hrl HN
  go_wp2_with fail
  go_quiet (fail)
  have HS2 : Hid (LsSt R 75 2 bs r1 N w (w1.drewN nq) (.slice none 0 0) 0 N r1) := ⟨HS1.out.below (below_drewN (Below.refl _ _) _), HK1.out.drewN _, HR.out, [], rfl, World.ownsRow_nil _ _ _ _, by cases numsS (2 * N) r1 <;> rfl⟩
  clear c0 c1 hwr
  go_wp2_with fail
  clear hkn hn40 hRl hgt hz0
  go_loopg [6, 28] N (fun g a b wr => ∃ (i : Nat) (t : List Nat), i + g = N ∧ b = .int .i64 i ∧ Hid (LsSt R 75 2 bs r1 N w wr a i g t))
  case atStart => exact ⟨0, r1, by omega, rfl, HS2⟩
  case round =>
    obtain ⟨i, t, hig, rfl, HP⟩ := hrel
    cases gk with
    | zero =>
      have hiN : i = N := by omega
      have HQ := Lib.hid (HP.out.post hiN hN40 HC.out)
      subst hiN
      have hnn : ¬ (i : Int) < (i : Int) := by omega
      clear hig
      go_wp2_with fail
      go_ret
      exact HQ.out
    | succ g =>
      have hlt : (i : Int) < (N : Int) := by omega
      have HG := Lib.hid hig
      obtain ⟨zs, hzl, hown, heq⟩ := HP.out.own
      obtain ⟨V, vc, rfl⟩ := own_slice hown
      have HZL := Lib.hid hzl
      have HOW := Lib.hid hown
      have HEQ := Lib.hid heq
      have HOB : Hid (∀ b, Value.ownBlock (.slice V i vc) = some b → w.heap.size ≤ b) := fun b hb => (hown.lt b hb).1
      clear hzl hown heq hig
      cases hn : numsS 2 t with
      | err ke =>
        have HN := Lib.hid hn
        have HQ : Hid (∀ w', Keep R wr w' → RP R bs (VList 75 2 w.heap.size) (rowsS 2 rest) w (.panicked [thrown ke]) w') := fun w' hk => by
          show RP _ _ _ _ _ _ _
          rw [HC.out, HP.out.fail HN.out]
          exact ⟨rfl, HP.out.keep.trans hk⟩
        clear hn
        go_wp2_with fail
        refine (rowS_err (output_any R bs _ _ HP.out.st) HN.out).mono ?_
        rintro e w5 ⟨rfl, hk⟩
        exact ⟨rfl, HQ.out _ hk⟩
      | ok vs t' =>
      have HN := Lib.hid hn
      obtain ⟨a0, a1, rfl⟩ := len2r (numsS_len hn)
      clear hn
      go_wp2_with fail
      refine (rowS_ok (output_any R bs _ _ HP.out.st) HN.out).mono ?_
      rintro e w5 ⟨rfl, hst, hk⟩
      have HST := Lib.hid hst
      have HK5 := Lib.hid hk
      have HSZ : Hid (w.heap.size ≤ w5.heap.size) := (HP.out.keep.trans hk).size
      have HOW5 := Lib.hid (own_bel (own_keep HOW.out hk HR.out) (rp_one1 w5 (.cells #[.int .i64 a0, .int .i64 a1] 75)))
      clear hst hk
      go_wp2_with (at_builtin; refine wpList_append_own_at _ rfl (.tmp 30) (.tmp 34) 41 rfl w.heap.size 75 i0 _ 2 16 Try.underlying41 HI.out HI0.out HI1.out HI2.out rfl (by decide) (.slice V i vc) i (zs.map (Value.int .i64)) (by simp [Act.eval]) HOW5.out ⟨w5.heap.size, 0, none⟩ 1 1 ([a0, a1].map (Value.int .i64)) (by simp [Act.eval]) rfl (rows_news [a0, a1] _) (ints_cell _) (by unfold maxLen; omega) (by omega) (by have := HSZ.out; simp only [new_size]; omega) ?_; intro v9 w9 hown9 hgrow9 hnil9 hob9; have HO9 := Lib.hid hown9; have HG9 := Lib.hid hgrow9; clear hown9 hgrow9 hob9 hnil9)
      have HR9 := Lib.hid (HP.out.push HN.out HST.out HK5.out _ zs HZL.out HEQ.out HO9.out HG9.out HOB.out)
      go_roundg g
      case rel => exact ⟨i + 1, t', by have := HG.out; omega, by go_num, HR9⟩
      case measure => omega
theorem info_listS : (Try.prog.info? 73).map (fun i => (i.zero, i.size, i.bytes)) = some (some (.agg #[.int .i64 0, .int .i64 0, .int .i64 0, .int .i64 0]), 4, 32) := by kernel_rfl

set_option maxHeartbeats 4000000 in
set_option maxRecDepth 100000 in
theorem listS_any (R : Nat) (bs rest : List Nat) (w : World) (h : RdSt R w bs rest) :
    Calls Try.prog 77 #[.pointer (some ⟨R, 0, none⟩), .func (.func 78) #[] #[]] w (RP R bs (VList 73 4 w.heap.size) (rowsS 4 rest) w) := by
  obtain ⟨i0, hinf, hz0, hz1, hz2⟩ := info_parts info_listS
  have HI := Lib.hid hinf
  have HI0 := Lib.hid hz0
  have HI1 := Lib.hid hz1
  have HI2 := Lib.hid hz2
  have H := Lib.hid h
  have HR : Hid (R < w.heap.size) := h.lt
  clear hinf hz0 hz1 hz2 h
  cases hn : numS rest with
  | err ke =>
    have HN := Lib.hid hn
    have HQ : Hid (∀ w', Keep R w w' → RP R bs (VList 73 4 w.heap.size) (rowsS 4 rest) w (.panicked [thrown ke]) w') := fun w' hk => by
      show RP _ _ _ _ _ _ _
      rw [rowsS_err (cntR_err HN.out)]
      exact ⟨rfl, hk⟩
    clear hn
    go_enter Try.func77, Try.ntmps77
    go_wp2_with fail
    refine (number_err H.out HN.out).mono ?_
    rintro e w1 ⟨rfl, hk⟩
    exact ⟨rfl, HQ.out _ hk⟩
  | ok z r1 =>
  have HN := Lib.hid hn
  clear hn
  go_enter Try.func77, Try.ntmps77
  go_wp2_with fail
  refine (number_ok H.out HN.out).mono ?_
  rintro e w1 ⟨rfl, hst, hk⟩
  have HS1 := Lib.hid hst
  have HK1 := Lib.hid hk
  obtain ⟨A, c, k, n, c0, c1, hkn, hn40, hrl, hRl, hnb⟩ := hst.at
  have HNB := Lib.hid hnb
  clear hst hk hnb
  by_cases hbad : z < 0 ∨ (r1.length : Int) < z
  · have HQ : Hid (∀ w', Keep R w w' → RP R bs (VList 73 4 w.heap.size) (rowsS 4 rest) w (.panicked [thrown 9]) w') := fun w' hk => by
      show RP _ _ _ _ _ _ _
      rw [rowsS_err (cntR_no HN.out hbad)]
      exact ⟨rfl, hk⟩
    by_cases hz : z < 0
    · clear hbad hrl
      go_wp2_with fail
      go_quiet (fail)
      go_wp2_with fail
      exact ⟨rfl, HQ.out _ (HK1.out.drewN _)⟩
    · have hgt : (n : Int) - (k : Int) < z := by omega
      have hwr : IntKind.i64.wrap ((n : Int) - (k : Int)) = (n : Int) - (k : Int) := IntWalk.i64_in _ (by omega)
      clear hbad hrl
      go_wp2_with fail
      go_quiet (fail)
      go_wp2_with fail
      exact ⟨rfl, HQ.out _ (HK1.out.drewN _)⟩
  have hz0 : ¬ z < 0 := by omega
  obtain ⟨N, rfl⟩ : ∃ N : Nat, z = (N : Int) := ⟨z.toNat, by omega⟩
  have hgt : ¬ (n : Int) - (k : Int) < (N : Int) := by omega
  have HC : Hid (rowsS 4 rest = numsS (4 * N) r1) := by have := cntR_ok HN.out (by omega) (by omega); rw [Int.toNat_natCast] at this; exact rowsS_ok this
  have hN40 : N ≤ 1099511627776 := by omega
  have hwr : IntKind.i64.wrap ((n : Int) - (k : Int)) = (n : Int) - (k : Int) := IntWalk.i64_in _ (by omega)
  clear hbad hrl HN
  go_wp2_with fail
  go_quiet (fail)
  have HS2 : Hid (LsSt R 73 4 bs r1 N w (w1.drewN nq) (.slice none 0 0) 0 N r1) := ⟨HS1.out.below (below_drewN (Below.refl _ _) _), HK1.out.drewN _, HR.out, [], rfl, World.ownsRow_nil _ _ _ _, by cases numsS (4 * N) r1 <;> rfl⟩
  clear c0 c1 hwr
  go_wp2_with fail
  clear hkn hn40 hRl hgt hz0
  go_loopg [6, 28] N (fun g a b wr => ∃ (i : Nat) (t : List Nat), i + g = N ∧ b = .int .i64 i ∧ Hid (LsSt R 73 4 bs r1 N w wr a i g t))
  case atStart => exact ⟨0, r1, by omega, rfl, HS2⟩
  case round =>
    obtain ⟨i, t, hig, rfl, HP⟩ := hrel
    cases gk with
    | zero =>
      have hiN : i = N := by omega
      have HQ := Lib.hid (HP.out.post hiN hN40 HC.out)
      subst hiN
      have hnn : ¬ (i : Int) < (i : Int) := by omega
      clear hig
      go_wp2_with fail
      go_ret
      exact HQ.out
    | succ g =>
      have hlt : (i : Int) < (N : Int) := by omega
      have HG := Lib.hid hig
      obtain ⟨zs, hzl, hown, heq⟩ := HP.out.own
      obtain ⟨V, vc, rfl⟩ := own_slice hown
      have HZL := Lib.hid hzl
      have HOW := Lib.hid hown
      have HEQ := Lib.hid heq
      have HOB : Hid (∀ b, Value.ownBlock (.slice V i vc) = some b → w.heap.size ≤ b) := fun b hb => (hown.lt b hb).1
      clear hzl hown heq hig
      cases hn : numsS 4 t with
      | err ke =>
        have HN := Lib.hid hn
        have HQ : Hid (∀ w', Keep R wr w' → RP R bs (VList 73 4 w.heap.size) (rowsS 4 rest) w (.panicked [thrown ke]) w') := fun w' hk => by
          show RP _ _ _ _ _ _ _
          rw [HC.out, HP.out.fail HN.out]
          exact ⟨rfl, HP.out.keep.trans hk⟩
        clear hn
        go_wp2_with fail
        refine (rowS_err (send_any R bs _ _ HP.out.st) HN.out).mono ?_
        rintro e w5 ⟨rfl, hk⟩
        exact ⟨rfl, HQ.out _ hk⟩
      | ok vs t' =>
      have HN := Lib.hid hn
      obtain ⟨a0, a1, a2, a3, rfl⟩ := len4r (numsS_len hn)
      clear hn
      go_wp2_with fail
      refine (rowS_ok (send_any R bs _ _ HP.out.st) HN.out).mono ?_
      rintro e w5 ⟨rfl, hst, hk⟩
      have HST := Lib.hid hst
      have HK5 := Lib.hid hk
      have HSZ : Hid (w.heap.size ≤ w5.heap.size) := (HP.out.keep.trans hk).size
      have HOW5 := Lib.hid (own_bel (own_keep HOW.out hk HR.out) (rp_one1 w5 (.cells #[.int .i64 a0, .int .i64 a1, .int .i64 a2, .int .i64 a3] 73)))
      clear hst hk
      go_wp2_with (at_builtin; refine wpList_append_own_at _ rfl (.tmp 30) (.tmp 34) 40 rfl w.heap.size 73 i0 _ 4 32 Try.underlying40 HI.out HI0.out HI1.out HI2.out rfl (by decide) (.slice V i vc) i (zs.map (Value.int .i64)) (by simp [Act.eval]) HOW5.out ⟨w5.heap.size, 0, none⟩ 1 1 ([a0, a1, a2, a3].map (Value.int .i64)) (by simp [Act.eval]) rfl (rows_news [a0, a1, a2, a3] _) (ints_cell _) (by unfold maxLen; omega) (by omega) (by have := HSZ.out; simp only [new_size]; omega) ?_; intro v9 w9 hown9 hgrow9 hnil9 hob9; have HO9 := Lib.hid hown9; have HG9 := Lib.hid hgrow9; clear hown9 hgrow9 hob9 hnil9)
      have HR9 := Lib.hid (HP.out.push HN.out HST.out HK5.out _ zs HZL.out HEQ.out HO9.out HG9.out HOB.out)
      go_roundg g
      case rel => exact ⟨i + 1, t', by have := HG.out; omega, by go_num, HR9⟩
      case measure => omega
theorem info_listE : (Try.prog.info? 35).map (fun i => (i.zero, i.size, i.bytes)) = some (some (.agg #[.int .i64 0, .int .i64 0, .int .i64 0, .int .i64 0, .int .i64 0, .int .i64 0, .int .i64 0]), 7, 56) := by kernel_rfl

set_option maxHeartbeats 4000000 in
set_option maxRecDepth 100000 in
theorem listE_any (R : Nat) (bs rest : List Nat) (w : World) (h : RdSt R w bs rest) :
    Calls Try.prog 76 #[.pointer (some ⟨R, 0, none⟩), .func (.func 46) #[] #[]] w (RP R bs (VList 35 7 w.heap.size) (rowsS 7 rest) w) := by
  obtain ⟨i0, hinf, hz0, hz1, hz2⟩ := info_parts info_listE
  have HI := Lib.hid hinf
  have HI0 := Lib.hid hz0
  have HI1 := Lib.hid hz1
  have HI2 := Lib.hid hz2
  have H := Lib.hid h
  have HR : Hid (R < w.heap.size) := h.lt
  clear hinf hz0 hz1 hz2 h
  cases hn : numS rest with
  | err ke =>
    have HN := Lib.hid hn
    have HQ : Hid (∀ w', Keep R w w' → RP R bs (VList 35 7 w.heap.size) (rowsS 7 rest) w (.panicked [thrown ke]) w') := fun w' hk => by
      show RP _ _ _ _ _ _ _
      rw [rowsS_err (cntR_err HN.out)]
      exact ⟨rfl, hk⟩
    clear hn
    go_enter Try.func76, Try.ntmps76
    go_wp2_with fail
    refine (number_err H.out HN.out).mono ?_
    rintro e w1 ⟨rfl, hk⟩
    exact ⟨rfl, HQ.out _ hk⟩
  | ok z r1 =>
  have HN := Lib.hid hn
  clear hn
  go_enter Try.func76, Try.ntmps76
  go_wp2_with fail
  refine (number_ok H.out HN.out).mono ?_
  rintro e w1 ⟨rfl, hst, hk⟩
  have HS1 := Lib.hid hst
  have HK1 := Lib.hid hk
  obtain ⟨A, c, k, n, c0, c1, hkn, hn40, hrl, hRl, hnb⟩ := hst.at
  have HNB := Lib.hid hnb
  clear hst hk hnb
  by_cases hbad : z < 0 ∨ (r1.length : Int) < z
  · have HQ : Hid (∀ w', Keep R w w' → RP R bs (VList 35 7 w.heap.size) (rowsS 7 rest) w (.panicked [thrown 9]) w') := fun w' hk => by
      show RP _ _ _ _ _ _ _
      rw [rowsS_err (cntR_no HN.out hbad)]
      exact ⟨rfl, hk⟩
    by_cases hz : z < 0
    · clear hbad hrl
      go_wp2_with fail
      go_quiet (fail)
      go_wp2_with fail
      exact ⟨rfl, HQ.out _ (HK1.out.drewN _)⟩
    · have hgt : (n : Int) - (k : Int) < z := by omega
      have hwr : IntKind.i64.wrap ((n : Int) - (k : Int)) = (n : Int) - (k : Int) := IntWalk.i64_in _ (by omega)
      clear hbad hrl
      go_wp2_with fail
      go_quiet (fail)
      go_wp2_with fail
      exact ⟨rfl, HQ.out _ (HK1.out.drewN _)⟩
  have hz0 : ¬ z < 0 := by omega
  obtain ⟨N, rfl⟩ : ∃ N : Nat, z = (N : Int) := ⟨z.toNat, by omega⟩
  have hgt : ¬ (n : Int) - (k : Int) < (N : Int) := by omega
  have HC : Hid (rowsS 7 rest = numsS (7 * N) r1) := by have := cntR_ok HN.out (by omega) (by omega); rw [Int.toNat_natCast] at this; exact rowsS_ok this
  have hN40 : N ≤ 1099511627776 := by omega
  have hwr : IntKind.i64.wrap ((n : Int) - (k : Int)) = (n : Int) - (k : Int) := IntWalk.i64_in _ (by omega)
  clear hbad hrl HN
  go_wp2_with fail
  go_quiet (fail)
  have HS2 : Hid (LsSt R 35 7 bs r1 N w (w1.drewN nq) (.slice none 0 0) 0 N r1) := ⟨HS1.out.below (below_drewN (Below.refl _ _) _), HK1.out.drewN _, HR.out, [], rfl, World.ownsRow_nil _ _ _ _, by cases numsS (7 * N) r1 <;> rfl⟩
  clear c0 c1 hwr
  go_wp2_with fail
  clear hkn hn40 hRl hgt hz0
  go_loopg [6, 28] N (fun g a b wr => ∃ (i : Nat) (t : List Nat), i + g = N ∧ b = .int .i64 i ∧ Hid (LsSt R 35 7 bs r1 N w wr a i g t))
  case atStart => exact ⟨0, r1, by omega, rfl, HS2⟩
  case round =>
    obtain ⟨i, t, hig, rfl, HP⟩ := hrel
    cases gk with
    | zero =>
      have hiN : i = N := by omega
      have HQ := Lib.hid (HP.out.post hiN hN40 HC.out)
      subst hiN
      have hnn : ¬ (i : Int) < (i : Int) := by omega
      clear hig
      go_wp2_with fail
      go_ret
      exact HQ.out
    | succ g =>
      have hlt : (i : Int) < (N : Int) := by omega
      have HG := Lib.hid hig
      obtain ⟨zs, hzl, hown, heq⟩ := HP.out.own
      obtain ⟨V, vc, rfl⟩ := own_slice hown
      have HZL := Lib.hid hzl
      have HOW := Lib.hid hown
      have HEQ := Lib.hid heq
      have HOB : Hid (∀ b, Value.ownBlock (.slice V i vc) = some b → w.heap.size ≤ b) := fun b hb => (hown.lt b hb).1
      clear hzl hown heq hig
      cases hn : numsS 7 t with
      | err ke =>
        have HN := Lib.hid hn
        have HQ : Hid (∀ w', Keep R wr w' → RP R bs (VList 35 7 w.heap.size) (rowsS 7 rest) w (.panicked [thrown ke]) w') := fun w' hk => by
          show RP _ _ _ _ _ _ _
          rw [HC.out, HP.out.fail HN.out]
          exact ⟨rfl, HP.out.keep.trans hk⟩
        clear hn
        go_wp2_with fail
        refine (rowS_err (event_any R bs _ _ HP.out.st) HN.out).mono ?_
        rintro e w5 ⟨rfl, hk⟩
        exact ⟨rfl, HQ.out _ hk⟩
      | ok vs t' =>
      have HN := Lib.hid hn
      obtain ⟨a0, a1, a2, a3, a4, a5, a6, rfl⟩ := len7r (numsS_len hn)
      clear hn
      go_wp2_with fail
      refine (rowS_ok (event_any R bs _ _ HP.out.st) HN.out).mono ?_
      rintro e w5 ⟨rfl, hst, hk⟩
      have HST := Lib.hid hst
      have HK5 := Lib.hid hk
      have HSZ : Hid (w.heap.size ≤ w5.heap.size) := (HP.out.keep.trans hk).size
      have HOW5 := Lib.hid (own_bel (own_keep HOW.out hk HR.out) (rp_one1 w5 (.cells #[.int .i64 a0, .int .i64 a1, .int .i64 a2, .int .i64 a3, .int .i64 a4, .int .i64 a5, .int .i64 a6] 35)))
      clear hst hk
      go_wp2_with (at_builtin; refine wpList_append_own_at _ rfl (.tmp 30) (.tmp 34) 39 rfl w.heap.size 35 i0 _ 7 56 Try.underlying39 HI.out HI0.out HI1.out HI2.out rfl (by decide) (.slice V i vc) i (zs.map (Value.int .i64)) (by simp [Act.eval]) HOW5.out ⟨w5.heap.size, 0, none⟩ 1 1 ([a0, a1, a2, a3, a4, a5, a6].map (Value.int .i64)) (by simp [Act.eval]) rfl (rows_news [a0, a1, a2, a3, a4, a5, a6] _) (ints_cell _) (by unfold maxLen; omega) (by omega) (by have := HSZ.out; simp only [new_size]; omega) ?_; intro v9 w9 hown9 hgrow9 hnil9 hob9; have HO9 := Lib.hid hown9; have HG9 := Lib.hid hgrow9; clear hown9 hgrow9 hob9 hnil9)
      have HR9 := Lib.hid (HP.out.push HN.out HST.out HK5.out _ zs HZL.out HEQ.out HO9.out HG9.out HOB.out)
      go_roundg g
      case rel => exact ⟨i + 1, t', by have := HG.out; omega, by go_num, HR9⟩
      case measure => omega
end Go.Proofs.Ytadikcioacaphaa
