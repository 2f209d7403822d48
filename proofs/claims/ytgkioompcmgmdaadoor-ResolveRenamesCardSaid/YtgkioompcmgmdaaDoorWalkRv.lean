/-
  What Resolve of package resolve returns for a program without handlers. Conditions: at most 100000 declarations, whose names have at most 4096 bytes.
-/
import Derived.Test.YtgkioompcmgmdaaDoorWalkDc
import Derived.Test.YtgkioompcmgmdaaDoorWalkIv
namespace Go.Proofs.YtgkioompcmgmdaaDoor
open Go.RowKit

set_option maxHeartbeats 1000000 in
set_option maxRecDepth 100000 in
theorem stmts_nil (x : Value) (A : Option Addr) (c : Nat) (w : World) : Calls Tryd.prog 22 #[x, .slice A 0 c] w fun e w' => e = .returned (.slice none 0 0) ∧ w' = w := by
  go_enter Tryd.func22, Tryd.ntmps22
  go_wp2_with fail
  go_loopg [5, 11] 0 (fun g o i wr => o = .slice none 0 0 ∧ i = .int .i64 0 ∧ wr = w)
  case atStart => exact ⟨rfl, rfl, rfl⟩
  case round =>
    obtain ⟨rfl, rfl, rfl⟩ := hrel
    go_wp2_with fail
    go_ret
    exact ⟨rfl, rfl⟩

set_option maxHeartbeats 1000000 in
set_option maxRecDepth 100000 in
theorem are_nil (A : Option Addr) (c : Nat) (w : World) : Calls Tryd.prog 34 #[.slice A 0 c] w fun e w' => e = .returned (.bool true) ∧ w' = w := by
  go_enter Tryd.func34, Tryd.ntmps34
  go_wp2_with fail
  go_loopg [7] 0 (fun g i wr => i = .int .i64 0 ∧ wr = w)
  case atStart => exact ⟨rfl, rfl⟩
  case round =>
    obtain ⟨rfl, rfl⟩ := hrel
    go_wp2_with fail
    go_ret
    exact ⟨rfl, rfl⟩

theorem hA_none : ∀ k, hA none none none none k = none
  | 0 => rfl
  | 1 => rfl
  | 2 => rfl
  | _ + 3 => rfl
theorem hN_zero : ∀ k, hN 0 0 0 0 k = 0
  | 0 => rfl
  | 1 => rfl
  | 2 => rfl
  | _ + 3 => rfl

/-- The error of a program without handlers, and the initial values of its cells. -/
def resV (l : List Vr) : Int × List Int := if l.all varOK = false then (7, []) else ((declS l).1, (declS l).2.1)

/-- What Resolve returns. -/
def RvPost (R : Int × List Int) (w : World) (e : Ending) (w' : World) : Prop :=
  Below w.heap.size w w' ∧ ∃ A c, e = .returned (.tuple #[.agg #[.slice A R.2.length c, .slice none 0 0, .slice none 0 0, .slice none 0 0, .slice none 0 0], .int .i64 R.1]) ∧ w'.ownsRow w.heap.size 3 1 (.slice A R.2.length c) R.2.length (R.2.map (Value.int .i64))

theorem declS_err {l : List Vr} (h : (declS l).1 ≠ 0) : (declS l).2.1 = [] := by
  unfold declS at h ⊢
  split
  · rfl
  · rename_i h16
    rw [if_neg h16] at h
    split
    · rfl
    · rename_i f hf
      rw [hf] at h
      simp only at h
      split
      · rfl
      · rename_i a g hg
        rw [hg] at h
        exact absurd rfl h

theorem rv_below (w : World) (a b : Obj) : Below w.heap.size w ((w.alloc a).alloc b) := ((Below.refl _ _).alloc (Nat.le_refl _) a).alloc (by rw [new_size]; omega) b
theorem rv_prog (w : World) (a b : Obj) : ((w.alloc a).alloc b).heap[w.heap.size]? = some a := (alloc_blk _ b (by rw [new_size]; omega)).trans (new_blk w a)
theorem rv_code (w : World) (a b : Obj) : ((w.alloc a).alloc b).heap[w.heap.size + 1]? = some b := by
  have := new_blk (w.alloc a) b
  rwa [new_size] at this
theorem rv_out {w : World} {n : Nat} {T : TypeId} {z0 z1 z2 z3 z4 : Value} (h : w.heap[n]? = some (.cells #[z0, z1, z2, z3, z4] T (0, 0))) (a0 a1 a2 a3 a4 : Value) (x y : Obj) :
    ((((((((w.setCell ⟨n, 0, none⟩ a0).setCell ⟨n, 1, none⟩ a1).setCell ⟨n, 2, none⟩ a2).setCell ⟨n, 3, none⟩ a3).setCell ⟨n, 4, none⟩ a4).alloc x).alloc y).heap[n]? = some (.cells #[a0, a1, a2, a3, a4] T (0, 0))) := by
  have h0 := blk_set h 0 a0
  have h1 := blk_set h0 1 a1
  have h2 := blk_set h1 2 a2
  have h3 := blk_set h2 3 a3
  have h4 := blk_set h3 4 a4
  refine (alloc_blk _ y ?_).trans ((alloc_blk _ x (lt_of_block h4)).trans h4)
  rw [new_size]
  exact Nat.lt_succ_of_lt (lt_of_block h4)
theorem own_blk {w w' : World} {base base' : Nat} {e : TypeId} {size n : Nat} {v : Value} {xs : List Value} (h : w.ownsRow base e size v n xs) (hb : base' ≤ base) (hk : ∀ g, base ≤ g → g < w.heap.size → w'.heap[g]? = w.heap[g]?) : w'.ownsRow base' e size v n xs := by
  obtain ⟨h1, ⟨rfl, rfl⟩ | ⟨g, cap, cur, rfl, h2, h3, h4⟩⟩ := h
  · exact ⟨h1, .inl ⟨rfl, rfl⟩⟩
  · exact ⟨h1, .inr ⟨g, cap, cur, rfl, Nat.le_trans hb h2, (hk g h2 (lt_of_block h3)).trans h3, h4⟩⟩
theorem rv_other (w : World) (n : Nat) (a0 a1 a2 a3 a4 : Value) (x y : Obj) {k : Nat} (h : k ≠ n) (hk : k < w.heap.size) :
    ((((((((w.setCell ⟨n, 0, none⟩ a0).setCell ⟨n, 1, none⟩ a1).setCell ⟨n, 2, none⟩ a2).setCell ⟨n, 3, none⟩ a3).setCell ⟨n, 4, none⟩ a4).alloc x).alloc y).drew).heap[k]? = w.heap[k]? := by
  have hz := set5_size w n a0 a1 a2 a3 a4
  show (((set5 w n a0 a1 a2 a3 a4).alloc x).alloc y).heap[k]? = _
  rw [alloc_blk _ y (by rw [new_size, hz]; omega), alloc_blk _ x (by rw [hz]; exact hk), set5_blk w n a0 a1 a2 a3 a4 h]
def pv (l : List Vr) : Pr := ⟨l, [], [], [], []⟩

set_option maxHeartbeats 4000000 in
set_option maxRecDepth 100000 in
theorem resolve_vars (l : List Vr) (hnm : ∀ v ∈ l, v.name.length ≤ 4096) (hn : l.length ≤ 100000) (S : Nat → Prop) (w : World) (A : Option Addr) (n c : Nat) (hl : VrSlice S w l (.slice A n c)) :
    Calls Tryd.prog 9 #[.agg #[.slice A n c, .slice none 0 0, .slice none 0 0, .slice none 0 0, .slice none 0 0]] w (RvPost (resV l) w) := by
  have HP : Hid (PrAt S w (pv l) (.slice A n c) (.slice none 0 0) (.slice none 0 0) (.slice none 0 0) (.slice none 0 0)) := ⟨hl, sts_nil _ _, sts_nil _ _, sts_nil _ _, sts_nil _ _⟩
  have HC : Hid (∀ w', Still S S w w' → Calls Tryd.prog 20 #[.agg #[.slice A n c, .slice none 0 0, .slice none 0 0, .slice none 0 0, .slice none 0 0]] w' fun e w2 => e = .returned (.int .i64 (if l.all varOK = false then 7 else 0)) ∧ Below w'.heap.size w' w2) := fun w' hs => by
    have h := check_any (pv l) (by simp [Pr.big, pv, St.bigL]) hn (fun v hv => by have := hnm v hv; omega) S w' A none none none none n 0 0 0 0 c 0 0 0 0 (HP.out.still hs) (fun _ => true) (fun k hk w2 _ => by
      rw [hA_none, hN_zero]
      exact (are_nil none 0 w2).mono fun e w3 ⟨h1, h2⟩ => ⟨h1, h2 ▸ Below.refl _ _⟩)
    have e : chkS (pv l) (fun _ => true) = if l.all varOK = false then 7 else 0 := by
      unfold chkS
      rw [if_neg (by simp [Pr.deep, pv, St.deepL])]
      rfl
    rw [e] at h
    exact h
  have HD : Hid (∀ w', Still S S w w' → Calls Tryd.prog 21 #[.slice A n c] w' (DcPost (declS l) w')) := fun w' hs => declare_any l hnm hn S w' A n c (hl.still hs)
  obtain ⟨R, hR⟩ : ∃ R, resV l = R := ⟨_, rfl⟩
  rw [hR]
  unfold resV at hR
  have HR := Lib.hid hR
  obtain ⟨d, hd⟩ : ∃ d, declS l = d := ⟨_, rfl⟩
  have HE := Lib.hid (fun h => declS_err (l := l) h)
  rw [hd] at HD HR HE
  clear hl hnm hn hR hd HP
  by_cases hok : l.all varOK = false
  · have HQ : Hid ((7, []) = R) := by have := HR.out; rw [if_pos hok] at this; exact this
    rw [if_pos hok] at HC
    clear hok HR HD
    go_enter Tryd.func9, Tryd.ntmps9
    go_wp2_with fail
    refine (HC.out _ fun k h1 h2 => ⟨h1, (alloc_blk _ _ (by rw [new_size]; omega)).trans (alloc_blk w _ h2)⟩).mono ?_
    rintro e w1 ⟨rfl, hb⟩
    have HB1 := Lib.hid ((rv_below w _ _).trans (hb.mono (by rw [new_size, new_size]; omega)))
    obtain ⟨d0, d1, d2, d3, d4, f0, f1, f2, f3, f4, hz⟩ := box5 (below_blk hb (rv_code w _ _))
    clear hb HC
    go_wp2_with fail
    refine bodyPost_ret (v := .tuple #[.agg #[.slice none 0 0, .slice none 0 0, .slice none 0 0, .slice none 0 0, .slice none 0 0], .int .i64 7]) ?_ rfl ?_
    · simp [results, Tryd.results9, go_sem, World.cell?_setCell_same, World.cell?_setCell_other, d0, d1, d2, d3, d4]
    · rw [← HQ.out]
      exact ⟨set5_below (n := w.heap.size + 1) HB1.out (by omega) _ _ _ _ _, none, 0, rfl, World.ownsRow_nil _ _ _ _⟩
  · have HQ : Hid ((d.1, d.2.1) = R) := by have := HR.out; rw [if_neg hok] at this; exact this
    rw [if_neg hok] at HC
    clear hok HR
    go_enter Tryd.func9, Tryd.ntmps9
    go_wp2_with fail
    refine (HC.out _ fun k h1 h2 => ⟨h1, (alloc_blk _ _ (by rw [new_size]; omega)).trans (alloc_blk w _ h2)⟩).mono ?_
    rintro e w1 ⟨rfl, hb⟩
    have HB1 := Lib.hid ((rv_below w _ _).trans (hb.mono (by rw [new_size, new_size]; omega)))
    have HX1 := Lib.hid (below_blk hb (rv_prog w _ _))
    have HY1 := Lib.hid (below_blk hb (rv_code w _ _))
    obtain ⟨d0, d1, d2, d3, d4, f0, f1, f2, f3, f4, hz⟩ := box5 HX1.out
    clear hb HC f0 f1 f2 f3 f4 d1 d2 d3 d4
    go_wp2_with fail
    refine (HD.out _ fun k h1 h2 => ⟨h1, HB1.out.block k h2⟩).mono ?_
    rintro e w2 ⟨hb, hcase⟩
    have HB2 := Lib.hid (HB1.out.trans (hb.mono HB1.out.size))
    have HX2 := Lib.hid (below_blk hb HX1.out)
    have HY2 := Lib.hid (below_blk hb HY1.out)
    clear hb HD d0
    rcases hcase with ⟨hd0, b, m, D, v, rfl, hbm, _, _, hown⟩ | ⟨hd0, rfl⟩
    · obtain ⟨A1, q1, rfl⟩ := own_slice hown
      have HOW := Lib.hid hown
      obtain ⟨d0, d1, d2, d3, d4, _, _, _, _, _, hz2⟩ := box5 HX2.out
      obtain ⟨g0, g1, g2, g3, g4, k0, k1, k2, k3, k4, hz3⟩ := box5 HY2.out
      obtain ⟨L, hL⟩ : ∃ L, d.2.1.length = L := ⟨_, rfl⟩
      rw [hL] at HOW ⊢
      have HQ2 : Hid (R = (0, d.2.1)) := by rw [← hd0]; exact HQ.out.symm
      have HLL := Lib.hid hL
      clear hown hd0 hbm hL HE HQ
      go_wp2_with fail
      go_region_held3 (fun w' => w'.cell? ⟨w.heap.size, 1, none⟩ = some (.slice none 0 0) ∧ w'.cell? ⟨w.heap.size, 2, none⟩ = some (.slice none 0 0) ∧ w'.cell? ⟨w.heap.size, 3, none⟩ = some (.slice none 0 0) ∧ w'.cell? ⟨w.heap.size, 4, none⟩ = some (.slice none 0 0)) (first | assumption | go_keep) (first | (go_at_call 22; refine (stmts_nil _ _ _ _).mono ?_; rintro e w5 ⟨rfl, rfl⟩))
      all_goals
        clear d0 d1 d2 d3 d4
        go_wp2_with fail
        refine bodyPost_ret (v := .tuple #[.agg #[.slice A1 L q1, .slice none 0 0, .slice none 0 0, .slice none 0 0, .slice none 0 0], .int .i64 0]) ?_ rfl ?_
        · have E := rv_out HY2.out (.slice A1 L q1) (.slice none 0 0) (.slice none 0 0) (.slice none 0 0) (.slice none 0 0) (.cells #[.map (some b), .bool false, .bool false] 65) (.cells #[.slice A1 L q1, .slice none 0 0, .slice none 0 0, .slice none 0 0, .slice none 0 0] 35)
          simp [results, Tryd.results9, go_sem, Lib.cell_of_heap E]
        · rw [HQ2.out]
          have hz9 := HB2.out.size
          have hy1 := lt_of_block HY1.out
          refine ⟨(((set5_below (n := w.heap.size + 1) HB2.out (by omega) _ _ _ _ _).alloc (by rw [set5_size]; exact hz9) _).alloc (by rw [new_size, set5_size]; omega) _).drew, A1, q1, by rw [HLL.out], ?_⟩
          simp only [HLL.out]
          exact own_blk HOW.out (by omega) fun g h1 h2 => rv_other w2 (w.heap.size + 1) _ _ _ _ _ _ _ (by omega) h2
    · have HQ2 : Hid (R = (d.1, [])) := by show _ = _; rw [← HQ.out, HE.out hd0]
      obtain ⟨er, her⟩ : ∃ er, d.1 = er := ⟨_, rfl⟩
      rw [her] at hd0 HQ2 ⊢
      have hne : (er != 0) = true := by simpa using hd0
      obtain ⟨d0, d1, d2, d3, d4, f0, f1, f2, f3, f4, hz2⟩ := box5 HY2.out
      clear her hd0 HE HQ
      go_wp2_with fail
      refine bodyPost_ret (v := .tuple #[.agg #[.slice none 0 0, .slice none 0 0, .slice none 0 0, .slice none 0 0, .slice none 0 0], .int .i64 er]) ?_ rfl ?_
      · simp [results, Tryd.results9, go_sem, World.cell?_setCell_same, World.cell?_setCell_other, d0, d1, d2, d3, d4]
      · rw [HQ2.out]
        exact ⟨set5_below (n := w.heap.size + 1) HB2.out (by omega) _ _ _ _ _, none, 0, rfl, World.ownsRow_nil _ _ _ _⟩
end Go.Proofs.YtgkioompcmgmdaaDoor
