/-
  Texts of a walk, laid together by a program of the prover's own (merge.py). No conditions beyond those that each text names.
-/
import Derived.Test.YtgblgkkbggdopaaDoorZaq
import Derived.Test.YtgblgkkbggdopaaDoorZap
/-
  What good, fine and Check of the document's answer return for programs that are as parsing makes them. Conditions: at most 100000 parts; names have at most 4096 bytes.
-/
namespace Go.Proofs.YtgblgkkbggdopaaDoor
open Go.RowKit

theorem soS_in (op : Int) (x : List UInt8 × Int × Int) : ∀ l : List (List UInt8 × Int × Int), soS l op = some x → x ∈ l ∧ x.2.1 = op
  | [], h => by cases h
  | y :: r, h => by
    simp only [soS] at h
    split at h
    · injection h with h; subst h; exact ⟨List.mem_cons_self .., by assumption⟩
    · exact ⟨List.mem_cons_of_mem _ (soS_in op x r h).1, (soS_in op x r h).2⟩
theorem sym_rng : (symTab.all fun x => decide (1 ≤ x.2.1) && decide (x.2.1 ≤ 22)) = true := by decide +kernel
theorem opN_rng {op n : Int} (h : opN op = some n) : 1 ≤ op ∧ op ≤ 22 := by
  unfold opN at h
  split at h
  · omega
  · split at h
    · omega
    · cases hs : soS symTab op with
      | none => rw [hs] at h; cases h
      | some x =>
        obtain ⟨h1, h2⟩ := soS_in op x symTab hs
        have := List.all_eq_true.1 sym_rng x h1
        simp only [Bool.and_eq_true, decide_eq_true_eq] at this
        omega
theorem opN_k {op : Int} {n : Int} (h : opN op = some n) : ∃ k : Nat, op = (k : Int) ∧ k < 23 ∧ k ≠ 0 ∧ rop k = n := by
  obtain ⟨h1, h2⟩ := opN_rng h
  obtain ⟨k, hk⟩ := Int.eq_ofNat_of_zero_le (show 0 ≤ op by omega)
  subst hk
  have h3 := opN_rop k (by omega)
  rw [h, if_neg (by omega)] at h3
  exact ⟨k, rfl, by omega, by omega, (Option.some.inj h3).symm⟩

set_option maxHeartbeats 4000000 in
set_option maxRecDepth 100000 in
theorem rgood_all : ∀ (n : Nat) (e : Ex), e.big ≤ n → n ≤ 100000 → e.short → e.good = true → ∀ (S : Nat → Prop) (w : World) (a b : Int) (s : ByteArray) (c d : Int) (A : Option Addr) (l q : Nat), ExL S w e [.int .i64 a, .int .i64 b, .string s, .int .i64 c, .int .i64 d, .slice A l q] →
    Calls Tryd.prog 74 #[.agg #[.int .i64 a, .int .i64 b, .string s, .int .i64 c, .int .i64 d, .slice A l q]] w fun e' w' => e' = .returned (.bool true) ∧ Below w.heap.size w w'
  | 0, .mk _ _ _ _ _ _, h, _, _, _ => by simp only [Ex.big] at h; omega
  | n + 1, .mk op value name slot size args, h, hn, hsh, hgd => by
    intro S w a b s c d A l q hl
    have ih := rgood_all n
    simp only [Ex.big] at h
    simp only [Ex.short] at hsh
    simp only [Ex.good, Bool.and_eq_true, decide_eq_true_eq] at hgd
    have hlq : args.length ≤ 100000 := by have := Ex.len_big args; omega
    simp only [ExL] at hl
    obtain ⟨A', c', e1, hc, hr⟩ := hl
    simp only [exCells, List.cons.injEq, Value.slice.injEq, and_true] at e1
    obtain ⟨e1, e2, e3, e4, e5, rfl, rfl, rfl⟩ := e1
    injection e1 with _ e1
    injection e2 with _ e2
    injection e3 with e3
    injection e4 with _ e4
    injection e5 with _ e5
    subst e1 e2 e3 e4 e5
    obtain ⟨⟨⟨⟨⟨rfl, rfl⟩, hnm⟩, hval⟩, hop⟩, hga⟩ := hgd
    have IH := Lib.hid ih
    have HR := Lib.hid hr
    have HD := Lib.hid h
    have HSH := Lib.hid hsh.2
    have HGA := Lib.hid hga
    obtain ⟨m, hm⟩ : ∃ x, args.length = x := ⟨_, rfl⟩
    have HM := Lib.hid hm
    rw [hm] at hop hlq ⊢
    obtain ⟨kk, rfl, hk1, hk2, hk3⟩ := opN_k hop
    have hop' : ∀ w, Calls Tryd.prog 82 #[.int .i64 kk] w fun e w' => e = .returned (.int .i64 m) ∧ w' = w := fun w => hk3 ▸ rops_any kk hk1 w
    obtain ⟨ki, hki⟩ : ∃ x : Int, (kk : Int) = x := ⟨_, rfl⟩
    rw [hki] at hval hnm ⊢
    rw [hki] at hop'
    have HOP := Lib.hid hop'
    clear hki
    have hvb : 0 ≤ b ∧ (ki = 1 ∨ b = 0) := by
      simp only [Bool.not_eq_true', Bool.or_eq_false_iff, Bool.and_eq_false_iff, decide_eq_false_iff_not] at hval
      omega
    obtain ⟨nb, hnb⟩ : ∃ x, (decide (ki = 2) || decide (ki = 3)) = x := ⟨_, rfl⟩
    rw [hnb] at hnm
    have hvl : ∀ w, nb = true → Calls Tryd.prog 61 #[.string (strB name)] w fun e w' => e = .returned (.bool true) ∧ w' = w := fun w hnb => by
      have h := rvalid_any (strB name) w (by rw [str_size]; have := hsh.1; omega)
      rw [str_data] at h
      have hv : validS name = true := by rw [hnb] at hnm; exact hnm
      rw [hv] at h
      exact h.mono fun e w' ⟨h1, h2⟩ => ⟨h1, h2.symm⟩
    have h23 : (ki = 2 ∧ nb = true ∧ b = 0) ∨ (ki = 3 ∧ nb = true ∧ b = 0) ∨ (ki = 1 ∧ nb = false ∧ name = [] ∧ (b < 0) = False) ∨ ((ki == 1) = false ∧ (ki != 1) = true ∧ (ki == 2) = false ∧ (ki == 3) = false ∧ nb = false ∧ b = 0 ∧ name = []) := by
      by_cases h2 : ki = 2
      · left; subst h2; exact ⟨rfl, by simpa using hnb.symm, by omega⟩
      · by_cases h3 : ki = 3
        · right; left; subst h3; exact ⟨rfl, by simpa using hnb.symm, by omega⟩
        · have hnf : nb = false := by rw [← hnb]; simp [h2, h3]
          have hne : name = [] := by rw [hnf] at hnm; simpa [nmB] using hnm
          by_cases h1 : ki = 1
          · right; right; left; exact ⟨h1, hnf, hne, eq_false (by omega)⟩
          · right; right; right; exact ⟨by simp [h1], by simp [h1], by simp [h2], by simp [h3], hnf, by omega, hne⟩
    obtain ⟨X, hX⟩ : ∃ x, strB name = x := ⟨_, rfl⟩
    have hem : name = [] → X = ⟨#[]⟩ := fun h => by rw [← hX, h]; rfl
    rw [hX] at hvl ⊢
    have HVL := Lib.hid hvl
    have HEM := Lib.hid hem
    obtain ⟨W, hW⟩ : ∃ x, w.alloc (.cells #[.int .i64 ki, .int .i64 b, .string X, .int .i64 0, .int .i64 0, .slice A m q] 92) = x := ⟨_, rfl⟩
    have HBW : Hid (Below w.heap.size w W) := by rw [← hW]; exact (Below.refl _ _).alloc (Nat.le_refl _) _
    have hx : W.heap[w.heap.size]? = some (.cells #[.int .i64 ki, .int .i64 b, .string X, .int .i64 0, .int .i64 0, .slice A m q] 92 (0, 0)) := by rw [← hW]; exact new_blk w _
    obtain ⟨x0, x1, x2, x3, x4, x5, _⟩ := box6 hx
    have HX5 := Lib.hid x5
    clear ih hr h hsh hga hm hop hval hnm hnb hvb hc hk1 hk2 hk3 hop' hvl hem hX hx kk
    go_enter Tryd.func74, Tryd.ntmps74
    rcases h23 with ⟨rfl, rfl, rfl⟩ | ⟨rfl, rfl, rfl⟩ | ⟨rfl, rfl, hne, hbn⟩ | ⟨ha1, ha1n, ha2, ha3, rfl, rfl, hne⟩
    case' inl => have HV1 := Lib.hid (fun w => HVL.out w rfl)
    case' inr.inl => have HV1 := Lib.hid (fun w => HVL.out w rfl)
    case' inr.inr.inl =>
      obtain rfl := HEM.out hne
      clear hne
    case' inr.inr.inr =>
      obtain rfl := HEM.out hne
      clear hne
    all_goals
      clear HVL HEM
      go_upto_region 2 with fail
      go_quiet (first | (go_at_call 82; exact Calls.quiet_of_same (HOP.out _)) | (go_at_call 61; exact Calls.quiet_of_same (HV1.out _)))
      clear x0 x1 x2 x3 x4 x5
      have HB1 : Hid (Below w.heap.size w (W.drewN nq)) := below_drewN HBW.out _
      obtain ⟨W1, hW1⟩ : ∃ x, W.drewN nq = x := ⟨_, rfl⟩
      have HC1 : Hid (W1.cell? ⟨w.heap.size, 5, none⟩ = some (.slice A m q)) := by rw [← hW1]; exact HX5.out
      rw [hW1] at HB1
      simp only [hW1]
      clear hW1
      go_wp2_with fail
      go_loopg [4] m (fun g i wr => ∃ k : Nat, k + g = m ∧ i = .int .i64 k ∧ Hid (Below w.heap.size w wr) ∧ Hid (wr.cell? ⟨w.heap.size, 5, none⟩ = some (.slice A m q)))
      case atStart => exact ⟨0, by omega, rfl, HB1, HC1⟩
      case round =>
        obtain ⟨k, hkg, rfl, HB, HC⟩ := hrel
        have x5 := HC.out
        cases gk with
        | zero =>
          have hge : m ≤ k := by omega
          clear hkg
          go_wp2_with fail
          go_ret
          exact ⟨rfl, HB.out⟩
        | succ g =>
          have hlt : k < m := by omega
          have HG := Lib.hid hkg
          have hd0 := HD.out
          clear hkg
          obtain ⟨e1, he1⟩ : ∃ e1, args[k]? = some e1 := ⟨_, List.getElem?_eq_getElem (by have := HM.out; omega)⟩
          have HE1 := Lib.hid he1
          have hbg := Ex.big_at args k e1 he1
          obtain ⟨bb, o, rfl, hS, hrow⟩ := HR.out (fun e => by have := HM.out; rw [e] at this; simp at this; omega)
          obtain ⟨cs, hcs, hex⟩ := ExRow.get args bb o k e1 hrow he1
          obtain ⟨a1, b1, s1, c1, d1, A1, l1, q1, rfl⟩ := hex.plain
          have hbb : bb < w.heap.size := hcs.lt
          have hw : ∀ j u, w.cell? ⟨bb, j, none⟩ = some u → wr.cell? ⟨bb, j, none⟩ = some u := fun j u hu => (HB.out.cell (p := ⟨bb, j, none⟩) hbb).trans hu
          have y0 := hw _ _ (hcs 0 _ rfl)
          have y1 := hw _ _ (hcs 1 _ rfl)
          have y2 := hw _ _ (hcs 2 _ rfl)
          have y3 := hw _ _ (hcs 3 _ rfl)
          have y4 := hw _ _ (hcs 4 _ rfl)
          have y5 := hw _ _ (hcs 5 _ rfl)
          rw [Nat.add_zero] at y0
          have HEX := Lib.hid hex
          clear hw hcs hrow he1 hex hS
          have HEX2 := Lib.hid (IH.out e1 (by omega) (by omega) (Ex.shortL_at args k e1 HSH.out HE1.out) (goodL_at args k e1 HGA.out HE1.out) S wr a1 b1 s1 c1 d1 A1 l1 q1 (ExL.still (fun k hk1 hk2 => ⟨hk1, HB.out.block k hk2⟩) e1 _ HEX.out))
          clear hbg hd0
          go_wp2_with fail
          refine HEX2.out.mono ?_
          rintro e' w2 ⟨rfl, hb⟩
          have HB2 := Lib.hid (HB.out.trans (hb.mono HB.out.size))
          have HC2 : Hid (w2.cell? ⟨w.heap.size, 5, none⟩ = some (.slice (some ⟨bb, o, none⟩) m q)) := (hb.cell (p := ⟨w.heap.size, 5, none⟩) (World.block_lt_of_cell? _ _ x5)).trans x5
          clear hb y0 y1 y2 y3 y4 y5 x5
          go_wp2_with fail
          go_roundg g
          case rel => exact ⟨k + 1, by have := HG.out; omega, by go_num, HB2, HC2⟩
          case measure => omega
end Go.Proofs.YtgblgkkbggdopaaDoor
