/-
  Equality of structs of ints; what the comparisons of lists of them return, of the answer and of package slices (gens57.py writes this text). Condition: at most 10^9 elements.
-/
import Derived.Test.YtadikcioacaphaaWalkBf
import Derived.DeepKeys
import Derived.Deep.LoopGhost
import Derived.Deep.QuietTactic
import Derived.BigQuiet
namespace Go.Proofs.Ytadikcioacaphaa
open Go.RowKit

def okF (P : Program) : List Field → Nat → Bool
  | [], _ => true
  | f :: fs, off => f.name != "_" && f.offset == off && (match P.underlying f.type with | some (.int _) => true | _ => false) && okF P fs (off + 1)
theorem eqF_cons (P : Program) (d : Nat) (w : World) (xs ys : Array Value) (f : Field) (fs : List Field) (a b : Value) (r1 r2 : Bool) (h1 : f.name ≠ "_") (p1 : (part f.type xs f.offset).run P w = .ok a w) (p2 : (part f.type ys f.offset).run P w = .ok b w) (p3 : (Op.equalIn d f.type a b).run P w = .ok r1 w) (ih : (Op.eqFields d xs ys fs).run P w = .ok r2 w) :
    (Op.eqFields d xs ys (f :: fs)).run P w = .ok (r1 && r2) w := by
  simp only [Op.eqFields, h1, ne_eq, not_false_eq_true, if_true, Sem.run_bind, p1, p2, p3, Result.andThen_ok]
  cases r1
  · simp
  · simp [ih]
theorem eqF_ints (P : Program) (d : Nat) (w : World) (xs ys : Array Value) (gs : List Field) (r2 : Bool) (hg : (Op.eqFields (d + 1) xs ys gs).run P w = .ok r2 w) : ∀ (fs : List Field) (off : Nat) (la lb : List Int), okF P fs off = true → la.length = fs.length → lb.length = fs.length →
    (∀ i x, la[i]? = some x → xs[off + i]? = some (.int .i64 x)) → (∀ i x, lb[i]? = some x → ys[off + i]? = some (.int .i64 x)) → (Op.eqFields (d + 1) xs ys (fs ++ gs)).run P w = .ok (decide (la = lb) && r2) w
  | [], off, la, lb, _, ha, hb, _, _ => by
    have e1 : la = [] := List.length_eq_zero_iff.1 ha
    have e2 : lb = [] := List.length_eq_zero_iff.1 hb
    subst e1 e2
    simpa using hg
  | f :: fs, off, a :: la, b :: lb, hk, ha, hb, hx, hy => by
    simp only [okF, Bool.and_eq_true, bne_iff_ne, beq_iff_eq] at hk
    obtain ⟨⟨⟨h1, h2⟩, h3⟩, h4⟩ := hk
    subst h2
    cases hu : P.underlying f.type with
    | none => simp [hu] at h3
    | some u =>
      cases u with
      | int q =>
        have p1 : (part f.type xs f.offset).run P w = .ok (.int .i64 a) w := by simp [part, isAgg, run_underlying hu, show xs[f.offset]? = some (.int .i64 a) from hx 0 a rfl]
        have p2 : (part f.type ys f.offset).run P w = .ok (.int .i64 b) w := by simp [part, isAgg, run_underlying hu, show ys[f.offset]? = some (.int .i64 b) from hy 0 b rfl]
        have p3 := run_equalIn_int (P := P) w d f.type .i64 q a b hu
        have ih := eqF_ints P d w xs ys gs r2 hg fs (f.offset + 1) la lb h4 (by simpa using ha) (by simpa using hb) (fun i x h => by have := hx (i + 1) x (by simpa using h); rwa [show f.offset + 1 + i = f.offset + (i + 1) from by omega]) (fun i x h => by have := hy (i + 1) x (by simpa using h); rwa [show f.offset + 1 + i = f.offset + (i + 1) from by omega])
        rw [List.cons_append, eqF_cons P (d + 1) w xs ys f (fs ++ gs) _ _ _ _ h1 p1 p2 p3 ih]
        by_cases hab : a = b
        · subst hab
          simp
        · have : (a == b) = false := by simpa using hab
          simp [this, hab]
      | _ => simp [hu] at h3
  | f :: fs, off, [], lb, _, ha, _, _, _ => by simp at ha
  | f :: fs, off, a :: la, [], _, _, hb, _, _ => by simp at hb
theorem eqF_all (P : Program) (d : Nat) (w : World) (xs ys : Array Value) (fs : List Field) (off : Nat) (la lb : List Int) (h : okF P fs off = true) (ha : la.length = fs.length) (hb : lb.length = fs.length)
    (hx : ∀ i x, la[i]? = some x → xs[off + i]? = some (.int .i64 x)) (hy : ∀ i x, lb[i]? = some x → ys[off + i]? = some (.int .i64 x)) : (Op.eqFields (d + 1) xs ys fs).run P w = .ok (decide (la = lb)) w := by
  have := eqF_ints P d w xs ys [] true (by simp [Op.eqFields]) fs off la lb h ha hb hx hy
  simpa using this

set_option maxRecDepth 100000 in
theorem neq_event (x0 x1 x2 x3 x4 x5 x6 y0 y1 y2 y3 y4 y5 y6 : Int) (w : World) : (binOp .neq 35 (.agg #[.int .i64 x0, .int .i64 x1, .int .i64 x2, .int .i64 x3, .int .i64 x4, .int .i64 x5, .int .i64 x6]) (.agg #[.int .i64 y0, .int .i64 y1, .int .i64 y2, .int .i64 y3, .int .i64 y4, .int .i64 y5, .int .i64 y6])).run Try.prog w = .ok (.bool (!decide ([x0, x1, x2, x3, x4, x5, x6] = [y0, y1, y2, y3, y4, y5, y6]))) w := by
  rw [run_neq_struct, run_equalIn_struct w 9999 35 _ _ (by kernel_rfl) (by kernel_rfl)]
  have p1 : (Op.eqFields 9999 #[.int .i64 x0, .int .i64 x1, .int .i64 x2, .int .i64 x3, .int .i64 x4, .int .i64 x5, .int .i64 x6] #[.int .i64 y0, .int .i64 y1, .int .i64 y2, .int .i64 y3, .int .i64 y4, .int .i64 y5, .int .i64 y6] ((Try.prog.fieldsOf 35).toList.drop 4)).run Try.prog w = .ok (decide ([x5, x6] = [y5, y6])) w := eqF_all Try.prog 9998 w _ _ _ 5 [x5, x6] [y5, y6] (by kernel_rfl) (by kernel_rfl) (by kernel_rfl) (fun i x h => by
      have hi : i < 2 := (List.getElem?_eq_some_iff.1 h).1
      rcases i with _ | _ | i
      all_goals first | (simp at h; subst h; rfl) | (simp at h)) (fun i x h => by
      have hi : i < 2 := (List.getElem?_eq_some_iff.1 h).1
      rcases i with _ | _ | i
      all_goals first | (simp at h; subst h; rfl) | (simp at h))
  have p2 : (Op.equalIn 9999 33 (.agg #[.int .i64 x3, .int .i64 x4]) (.agg #[.int .i64 y3, .int .i64 y4])).run Try.prog w = .ok (decide ([x3, x4] = [y3, y4])) w := by
    rw [run_equalIn_struct w 9998 33 _ _ (by kernel_rfl) (by kernel_rfl), eqF_all Try.prog 9997 w _ _ _ 0 [x3, x4] [y3, y4] (by kernel_rfl) (by kernel_rfl) (by kernel_rfl) (fun i x h => by
      have hi : i < 2 := (List.getElem?_eq_some_iff.1 h).1
      rcases i with _ | _ | i
      all_goals first | (simp at h; subst h; rfl) | (simp at h)) (fun i x h => by
      have hi : i < 2 := (List.getElem?_eq_some_iff.1 h).1
      rcases i with _ | _ | i
      all_goals first | (simp at h; subst h; rfl) | (simp at h))]
  have p3 := eqF_cons Try.prog 9999 w #[.int .i64 x0, .int .i64 x1, .int .i64 x2, .int .i64 x3, .int .i64 x4, .int .i64 x5, .int .i64 x6] #[.int .i64 y0, .int .i64 y1, .int .i64 y2, .int .i64 y3, .int .i64 y4, .int .i64 y5, .int .i64 y6] ((Try.prog.fieldsOf 35).toList.getD 3 default) ((Try.prog.fieldsOf 35).toList.drop 4) (.agg #[.int .i64 x3, .int .i64 x4]) (.agg #[.int .i64 y3, .int .i64 y4]) _ _ (bne_iff_ne.1 (by kernel_rfl)) (by kernel_rfl) (by kernel_rfl) p2 p1
  have p4 := eqF_ints Try.prog 9998 w _ _ _ _ p3 ((Try.prog.fieldsOf 35).toList.take 3) 0 [x0, x1, x2] [y0, y1, y2] (by kernel_rfl) (by kernel_rfl) (by kernel_rfl) (fun i x h => by
      have hi : i < 3 := (List.getElem?_eq_some_iff.1 h).1
      rcases i with _ | _ | _ | i
      all_goals first | (simp at h; subst h; rfl) | (simp at h)) (fun i x h => by
      have hi : i < 3 := (List.getElem?_eq_some_iff.1 h).1
      rcases i with _ | _ | _ | i
      all_goals first | (simp at h; subst h; rfl) | (simp at h))
  have e : (Try.prog.fieldsOf 35).toList = (Try.prog.fieldsOf 35).toList.take 3 ++ ((Try.prog.fieldsOf 35).toList.getD 3 default :: (Try.prog.fieldsOf 35).toList.drop 4) := by kernel_rfl
  rw [e, p4]
  show Result.ok _ _ = Result.ok _ _
  congr 3
  rw [Bool.eq_iff_iff]
  simp [and_assoc]

set_option maxRecDepth 100000 in
theorem neq_send (x0 x1 x2 x3 y0 y1 y2 y3 : Int) (w : World) : (binOp .neq 73 (.agg #[.int .i64 x0, .int .i64 x1, .int .i64 x2, .int .i64 x3]) (.agg #[.int .i64 y0, .int .i64 y1, .int .i64 y2, .int .i64 y3])).run Try.prog w = .ok (.bool (!decide ([x0, x1, x2, x3] = [y0, y1, y2, y3]))) w := by
  rw [run_neq_struct, run_equalIn_struct w 9999 73 _ _ (by kernel_rfl) (by kernel_rfl)]
  rw [eqF_all Try.prog 9998 w _ _ _ 0 [x0, x1, x2, x3] [y0, y1, y2, y3] (by kernel_rfl) (by kernel_rfl) (by kernel_rfl) (fun i x h => by
      have hi : i < 4 := (List.getElem?_eq_some_iff.1 h).1
      rcases i with _ | _ | _ | _ | i
      all_goals first | (simp at h; subst h; rfl) | (simp at h)) (fun i x h => by
      have hi : i < 4 := (List.getElem?_eq_some_iff.1 h).1
      rcases i with _ | _ | _ | _ | i
      all_goals first | (simp at h; subst h; rfl) | (simp at h))]
  rfl

set_option maxRecDepth 100000 in
theorem neq_output (x0 x1 y0 y1 : Int) (w : World) : (binOp .neq 75 (.agg #[.int .i64 x0, .int .i64 x1]) (.agg #[.int .i64 y0, .int .i64 y1])).run Try.prog w = .ok (.bool (!decide ([x0, x1] = [y0, y1]))) w := by
  rw [run_neq_struct, run_equalIn_struct w 9999 75 _ _ (by kernel_rfl) (by kernel_rfl)]
  rw [eqF_all Try.prog 9998 w _ _ _ 0 [x0, x1] [y0, y1] (by kernel_rfl) (by kernel_rfl) (by kernel_rfl) (fun i x h => by
      have hi : i < 2 := (List.getElem?_eq_some_iff.1 h).1
      rcases i with _ | _ | i
      all_goals first | (simp at h; subst h; rfl) | (simp at h)) (fun i x h => by
      have hi : i < 2 := (List.getElem?_eq_some_iff.1 h).1
      rcases i with _ | _ | i
      all_goals first | (simp at h; subst h; rfl) | (simp at h))]
  rfl

theorem len1 (r : List Int) (h : r.length = 1) : ∃ x0, r = [x0] := by
  match r, h with
  | [x0], _ => exact ⟨x0, rfl⟩

theorem len7 (r : List Int) (h : r.length = 7) : ∃ x0 x1 x2 x3 x4 x5 x6, r = [x0, x1, x2, x3, x4, x5, x6] := by
  match r, h with
  | [a, b, c, d, e, f, g], _ => exact ⟨a, b, c, d, e, f, g, rfl⟩
theorem len4 (r : List Int) (h : r.length = 4) : ∃ x0 x1 x2 x3, r = [x0, x1, x2, x3] := by
  match r, h with
  | [x0, x1, x2, x3], _ => exact ⟨x0, x1, x2, x3, rfl⟩

theorem len2 (r : List Int) (h : r.length = 2) : ∃ x0 x1, r = [x0, x1] := by
  match r, h with
  | [x0, x1], _ => exact ⟨x0, x1, rfl⟩

set_option maxHeartbeats 2000000 in
set_option maxRecDepth 100000 in
theorem sameI (xs ys : List (List Int)) (hx : ∀ r ∈ xs, r.length = 1) (hy : ∀ r ∈ ys, r.length = 1) (A B : Option Addr) (n m c d : Nat) (w : World) (h1 : RwAt w 1 (rowC xs) A n) (hn : n = xs.length) (h2 : RwAt w 1 (rowC ys) B m) (hm : m = ys.length) (hb : n ≤ 1000000000) :
    Calls Try.prog 66 #[.slice A n c, .slice B m d] w fun e w' => e = .returned (.bool (decide (xs = ys))) ∧ Below w.heap.size w w' := by
  by_cases hl : n = m
  · subst hl
    obtain ⟨R, hR⟩ : ∃ R, decide (xs = ys) = R := ⟨_, rfl⟩
    rw [hR]
    have HN := Lib.hid hn
    have HM := Lib.hid hm
    have HX := Lib.hid hx
    have HY := Lib.hid hy
    have H1 := Lib.hid h1
    have H2 := Lib.hid h2
    have HR := Lib.hid hR
    have hii : (n : Int) ≤ 9223372036854775807 := by omega
    clear hn hm hx hy hR h1 h2 hb
    go_enter Try.func66, Try.ntmps66
    go_wp2_with fail
    go_loopg [5] n (fun g i wr => ∃ k : Nat, k + g = n ∧ i = .int .i64 k ∧ Hid (xs.take k = ys.take k) ∧ Hid (Below w.heap.size w wr))
    case atStart => exact ⟨0, by omega, rfl, by show _ = _; simp, Below.refl _ _⟩
    case round =>
      obtain ⟨k, hkg, rfl, HT, HB⟩ := hrel
      cases gk with
      | zero =>
        have hkn : k = n := by omega
        subst hkn
        have hnl : ¬ (k : Int) < (k : Int) := by omega
        have hR2 : R = true := by
          have h := HT.out
          rw [List.take_of_length_le (by have := HN.out; omega), List.take_of_length_le (by have := HM.out; omega)] at h
          rw [← HR.out, h]; simp
        subst hR2
        clear hkg
        go_wp2_with fail
        go_ret
        exact ⟨rfl, HB.out⟩
      | succ g =>
        have hlt : k < n := by omega
        have hlt' : (k : Int) < (n : Int) := by omega
        have hk0 : (0 : Int) ≤ (k : Int) := by omega
        have HG := Lib.hid hkg
        obtain ⟨r, hr⟩ : ∃ r, xs[k]? = some r := ⟨_, List.getElem?_eq_getElem (by have := HN.out; omega)⟩
        obtain ⟨s, hs⟩ : ∃ s, ys[k]? = some s := ⟨_, List.getElem?_eq_getElem (by have := HM.out; omega)⟩
        have hka : RwAt wr 1 (rowC xs) A n := H1.out.below (by decide) HB.out
        have hkb : RwAt wr 1 (rowC ys) B n := H2.out.below (by decide) HB.out
        obtain ⟨b1, o1, rfl, -⟩ := hka.2 (by omega)
        obtain ⟨b2, o2, rfl, -⟩ := hkb.2 (by omega)
        have f1 := hka.row HX.out HN.out rfl hr
        have f2 := hkb.row HY.out HM.out rfl hs
        obtain ⟨x0, rfl⟩ := len1 r (HX.out r (List.mem_of_getElem? hr))
        obtain ⟨y0, rfl⟩ := len1 s (HY.out s (List.mem_of_getElem? hs))
        have u0 := f1 0 x0 rfl
        have v0 := f2 0 y0 rfl
        rw [Nat.add_zero] at u0 v0
        rw [Nat.mul_one] at u0 v0
        obtain ⟨D, hD⟩ : ∃ D, decide ([x0] = [y0]) = D := ⟨_, rfl⟩
        have HRR := Lib.hid hr
        have HSS := Lib.hid hs
        have HDD := Lib.hid hD
        clear hkg hka hkb f1 f2 hr hs hD
        cases D with
        | true =>
          have he : x0 = y0 := by simpa using of_decide_eq_true HDD.out
          subst he
          go_upto_region 6 with fail
          go_quiet (fail)
          go_wp2_with fail
          go_roundg g
          case rel => exact ⟨k + 1, by have := HG.out; omega, by go_num, by show _ = _; rw [List.take_add_one, List.take_add_one, HT.out, HRR.out, HSS.out], by first | exact below_drewN HB.out _ | exact HB.out.drew⟩
          case measure => omega
        | false =>
          have hR2 : R = false := by
            rw [← HR.out]
            exact decide_eq_false fun h => by
              have e := HRR.out
              rw [h, HSS.out] at e
              have := of_decide_eq_false HDD.out
              exact this (by injection e with e; exact e.symm)
          subst hR2
          have hxy : ¬ x0 = y0 := fun h => of_decide_eq_false HDD.out (by rw [h])
          have hne : (x0 != y0) = true := by simpa using hxy
          go_upto_region 6 with fail
          go_quiet (fail)
          go_wp2_with fail
          go_ret
          exact ⟨rfl, by first | exact below_drewN HB.out _ | exact HB.out.drew⟩
  · have hR : decide (xs = ys) = false := decide_eq_false fun h => hl (by rw [hn, hm, h])
    rw [hR]
    have hne : ((n : Int) != (m : Int)) = true := by
      rw [bne_iff_ne]; omega
    clear hR hn hm hx hy h1 h2
    go_enter Try.func66, Try.ntmps66
    go_wp2_with fail
    go_ret
    exact ⟨rfl, Below.refl _ _⟩

set_option maxHeartbeats 2000000 in
set_option maxRecDepth 100000 in
theorem sameE (xs ys : List (List Int)) (hx : ∀ r ∈ xs, r.length = 7) (hy : ∀ r ∈ ys, r.length = 7) (A B : Option Addr) (n m c d : Nat) (w : World) (h1 : RwAt w 7 (rowC xs) A n) (hn : n = xs.length) (h2 : RwAt w 7 (rowC ys) B m) (hm : m = ys.length) (hb : n ≤ 1000000000) :
    Calls Try.prog 67 #[.slice A n c, .slice B m d] w fun e w' => e = .returned (.bool (decide (xs = ys))) ∧ Below w.heap.size w w' := by
  by_cases hl : n = m
  · subst hl
    obtain ⟨R, hR⟩ : ∃ R, decide (xs = ys) = R := ⟨_, rfl⟩
    rw [hR]
    have HN := Lib.hid hn
    have HM := Lib.hid hm
    have HX := Lib.hid hx
    have HY := Lib.hid hy
    have H1 := Lib.hid h1
    have H2 := Lib.hid h2
    have HR := Lib.hid hR
    have hii : (n : Int) ≤ 9223372036854775807 := by omega
    clear hn hm hx hy hR h1 h2 hb
    go_enter Try.func67, Try.ntmps67
    go_wp2_with fail
    go_loopg [5] n (fun g i wr => ∃ k : Nat, k + g = n ∧ i = .int .i64 k ∧ Hid (xs.take k = ys.take k) ∧ Hid (Below w.heap.size w wr))
    case atStart => exact ⟨0, by omega, rfl, by show _ = _; simp, Below.refl _ _⟩
    case round =>
      obtain ⟨k, hkg, rfl, HT, HB⟩ := hrel
      cases gk with
      | zero =>
        have hkn : k = n := by omega
        subst hkn
        have hnl : ¬ (k : Int) < (k : Int) := by omega
        have hR2 : R = true := by
          have h := HT.out
          rw [List.take_of_length_le (by have := HN.out; omega), List.take_of_length_le (by have := HM.out; omega)] at h
          rw [← HR.out, h]; simp
        subst hR2
        clear hkg
        go_wp2_with fail
        go_ret
        exact ⟨rfl, HB.out⟩
      | succ g =>
        have hlt : k < n := by omega
        have hlt' : (k : Int) < (n : Int) := by omega
        have hk0 : (0 : Int) ≤ (k : Int) := by omega
        have HG := Lib.hid hkg
        obtain ⟨r, hr⟩ : ∃ r, xs[k]? = some r := ⟨_, List.getElem?_eq_getElem (by have := HN.out; omega)⟩
        obtain ⟨s, hs⟩ : ∃ s, ys[k]? = some s := ⟨_, List.getElem?_eq_getElem (by have := HM.out; omega)⟩
        have hka : RwAt wr 7 (rowC xs) A n := H1.out.below (by decide) HB.out
        have hkb : RwAt wr 7 (rowC ys) B n := H2.out.below (by decide) HB.out
        obtain ⟨b1, o1, rfl, -⟩ := hka.2 (by omega)
        obtain ⟨b2, o2, rfl, -⟩ := hkb.2 (by omega)
        have f1 := hka.row HX.out HN.out rfl hr
        have f2 := hkb.row HY.out HM.out rfl hs
        obtain ⟨x0, x1, x2, x3, x4, x5, x6, rfl⟩ := len7 r (HX.out r (List.mem_of_getElem? hr))
        obtain ⟨y0, y1, y2, y3, y4, y5, y6, rfl⟩ := len7 s (HY.out s (List.mem_of_getElem? hs))
        have u0 := f1 0 x0 rfl
        have v0 := f2 0 y0 rfl
        have u1 := f1 1 x1 rfl
        have v1 := f2 1 y1 rfl
        have u2 := f1 2 x2 rfl
        have v2 := f2 2 y2 rfl
        have u3 := f1 3 x3 rfl
        have v3 := f2 3 y3 rfl
        have u4 := f1 4 x4 rfl
        have v4 := f2 4 y4 rfl
        have u5 := f1 5 x5 rfl
        have v5 := f2 5 y5 rfl
        have u6 := f1 6 x6 rfl
        have v6 := f2 6 y6 rfl
        rw [Nat.add_zero] at u0 v0
        have hne := neq_event x0 x1 x2 x3 x4 x5 x6 y0 y1 y2 y3 y4 y5 y6
        obtain ⟨D, hD⟩ : ∃ D, decide ([x0, x1, x2, x3, x4, x5, x6] = [y0, y1, y2, y3, y4, y5, y6]) = D := ⟨_, rfl⟩
        rw [hD] at hne
        have HRR := Lib.hid hr
        have HSS := Lib.hid hs
        have HDD := Lib.hid hD
        clear hkg hka hkb f1 f2 hr hs hD
        cases D with
        | true =>
          have he : [x0, x1, x2, x3, x4, x5, x6] = [y0, y1, y2, y3, y4, y5, y6] := of_decide_eq_true HDD.out
          go_upto_region 6 with fail
          go_quiet (fail)
          go_wp2_with fail
          go_roundg g
          case rel => exact ⟨k + 1, by have := HG.out; omega, by go_num, by show _ = _; rw [List.take_add_one, List.take_add_one, HT.out, HRR.out, HSS.out, he], by first | exact below_drewN HB.out _ | exact HB.out.drew⟩
          case measure => omega
        | false =>
          have hR2 : R = false := by
            rw [← HR.out]
            exact decide_eq_false fun h => by
              have e := HRR.out
              rw [h, HSS.out] at e
              have := of_decide_eq_false HDD.out
              exact this (by injection e with e; exact e.symm)
          subst hR2
          go_upto_region 6 with fail
          go_quiet (fail)
          go_wp2_with fail
          go_ret
          exact ⟨rfl, by first | exact below_drewN HB.out _ | exact HB.out.drew⟩
  · have hR : decide (xs = ys) = false := decide_eq_false fun h => hl (by rw [hn, hm, h])
    rw [hR]
    have hne : ((n : Int) != (m : Int)) = true := by
      rw [bne_iff_ne]; omega
    clear hR hn hm hx hy h1 h2
    go_enter Try.func67, Try.ntmps67
    go_wp2_with fail
    go_ret
    exact ⟨rfl, Below.refl _ _⟩

set_option maxHeartbeats 2000000 in
set_option maxRecDepth 100000 in
theorem sameS (xs ys : List (List Int)) (hx : ∀ r ∈ xs, r.length = 4) (hy : ∀ r ∈ ys, r.length = 4) (A B : Option Addr) (n m c d : Nat) (w : World) (h1 : RwAt w 4 (rowC xs) A n) (hn : n = xs.length) (h2 : RwAt w 4 (rowC ys) B m) (hm : m = ys.length) (hb : n ≤ 1000000000) :
    Calls Try.prog 68 #[.slice A n c, .slice B m d] w fun e w' => e = .returned (.bool (decide (xs = ys))) ∧ Below w.heap.size w w' := by
  by_cases hl : n = m
  · subst hl
    obtain ⟨R, hR⟩ : ∃ R, decide (xs = ys) = R := ⟨_, rfl⟩
    rw [hR]
    have HN := Lib.hid hn
    have HM := Lib.hid hm
    have HX := Lib.hid hx
    have HY := Lib.hid hy
    have H1 := Lib.hid h1
    have H2 := Lib.hid h2
    have HR := Lib.hid hR
    have hii : (n : Int) ≤ 9223372036854775807 := by omega
    clear hn hm hx hy hR h1 h2 hb
    go_enter Try.func68, Try.ntmps68
    go_wp2_with fail
    go_loopg [5] n (fun g i wr => ∃ k : Nat, k + g = n ∧ i = .int .i64 k ∧ Hid (xs.take k = ys.take k) ∧ Hid (Below w.heap.size w wr))
    case atStart => exact ⟨0, by omega, rfl, by show _ = _; simp, Below.refl _ _⟩
    case round =>
      obtain ⟨k, hkg, rfl, HT, HB⟩ := hrel
      cases gk with
      | zero =>
        have hkn : k = n := by omega
        subst hkn
        have hnl : ¬ (k : Int) < (k : Int) := by omega
        have hR2 : R = true := by
          have h := HT.out
          rw [List.take_of_length_le (by have := HN.out; omega), List.take_of_length_le (by have := HM.out; omega)] at h
          rw [← HR.out, h]; simp
        subst hR2
        clear hkg
        go_wp2_with fail
        go_ret
        exact ⟨rfl, HB.out⟩
      | succ g =>
        have hlt : k < n := by omega
        have hlt' : (k : Int) < (n : Int) := by omega
        have hk0 : (0 : Int) ≤ (k : Int) := by omega
        have HG := Lib.hid hkg
        obtain ⟨r, hr⟩ : ∃ r, xs[k]? = some r := ⟨_, List.getElem?_eq_getElem (by have := HN.out; omega)⟩
        obtain ⟨s, hs⟩ : ∃ s, ys[k]? = some s := ⟨_, List.getElem?_eq_getElem (by have := HM.out; omega)⟩
        have hka : RwAt wr 4 (rowC xs) A n := H1.out.below (by decide) HB.out
        have hkb : RwAt wr 4 (rowC ys) B n := H2.out.below (by decide) HB.out
        obtain ⟨b1, o1, rfl, -⟩ := hka.2 (by omega)
        obtain ⟨b2, o2, rfl, -⟩ := hkb.2 (by omega)
        have f1 := hka.row HX.out HN.out rfl hr
        have f2 := hkb.row HY.out HM.out rfl hs
        obtain ⟨x0, x1, x2, x3, rfl⟩ := len4 r (HX.out r (List.mem_of_getElem? hr))
        obtain ⟨y0, y1, y2, y3, rfl⟩ := len4 s (HY.out s (List.mem_of_getElem? hs))
        have u0 := f1 0 x0 rfl
        have v0 := f2 0 y0 rfl
        have u1 := f1 1 x1 rfl
        have v1 := f2 1 y1 rfl
        have u2 := f1 2 x2 rfl
        have v2 := f2 2 y2 rfl
        have u3 := f1 3 x3 rfl
        have v3 := f2 3 y3 rfl
        rw [Nat.add_zero] at u0 v0
        have hne := neq_send x0 x1 x2 x3 y0 y1 y2 y3
        obtain ⟨D, hD⟩ : ∃ D, decide ([x0, x1, x2, x3] = [y0, y1, y2, y3]) = D := ⟨_, rfl⟩
        rw [hD] at hne
        have HRR := Lib.hid hr
        have HSS := Lib.hid hs
        have HDD := Lib.hid hD
        clear hkg hka hkb f1 f2 hr hs hD
        cases D with
        | true =>
          have he : [x0, x1, x2, x3] = [y0, y1, y2, y3] := of_decide_eq_true HDD.out
          go_upto_region 6 with fail
          go_quiet (fail)
          go_wp2_with fail
          go_roundg g
          case rel => exact ⟨k + 1, by have := HG.out; omega, by go_num, by show _ = _; rw [List.take_add_one, List.take_add_one, HT.out, HRR.out, HSS.out, he], by first | exact below_drewN HB.out _ | exact HB.out.drew⟩
          case measure => omega
        | false =>
          have hR2 : R = false := by
            rw [← HR.out]
            exact decide_eq_false fun h => by
              have e := HRR.out
              rw [h, HSS.out] at e
              have := of_decide_eq_false HDD.out
              exact this (by injection e with e; exact e.symm)
          subst hR2
          go_upto_region 6 with fail
          go_quiet (fail)
          go_wp2_with fail
          go_ret
          exact ⟨rfl, by first | exact below_drewN HB.out _ | exact HB.out.drew⟩
  · have hR : decide (xs = ys) = false := decide_eq_false fun h => hl (by rw [hn, hm, h])
    rw [hR]
    have hne : ((n : Int) != (m : Int)) = true := by
      rw [bne_iff_ne]; omega
    clear hR hn hm hx hy h1 h2
    go_enter Try.func68, Try.ntmps68
    go_wp2_with fail
    go_ret
    exact ⟨rfl, Below.refl _ _⟩

set_option maxHeartbeats 2000000 in
set_option maxRecDepth 100000 in
theorem sameO (xs ys : List (List Int)) (hx : ∀ r ∈ xs, r.length = 2) (hy : ∀ r ∈ ys, r.length = 2) (A B : Option Addr) (n m c d : Nat) (w : World) (h1 : RwAt w 2 (rowC xs) A n) (hn : n = xs.length) (h2 : RwAt w 2 (rowC ys) B m) (hm : m = ys.length) (hb : n ≤ 1000000000) :
    Calls Try.prog 69 #[.slice A n c, .slice B m d] w fun e w' => e = .returned (.bool (decide (xs = ys))) ∧ Below w.heap.size w w' := by
  by_cases hl : n = m
  · subst hl
    obtain ⟨R, hR⟩ : ∃ R, decide (xs = ys) = R := ⟨_, rfl⟩
    rw [hR]
    have HN := Lib.hid hn
    have HM := Lib.hid hm
    have HX := Lib.hid hx
    have HY := Lib.hid hy
    have H1 := Lib.hid h1
    have H2 := Lib.hid h2
    have HR := Lib.hid hR
    have hii : (n : Int) ≤ 9223372036854775807 := by omega
    clear hn hm hx hy hR h1 h2 hb
    go_enter Try.func69, Try.ntmps69
    go_wp2_with fail
    go_loopg [5] n (fun g i wr => ∃ k : Nat, k + g = n ∧ i = .int .i64 k ∧ Hid (xs.take k = ys.take k) ∧ Hid (Below w.heap.size w wr))
    case atStart => exact ⟨0, by omega, rfl, by show _ = _; simp, Below.refl _ _⟩
    case round =>
      obtain ⟨k, hkg, rfl, HT, HB⟩ := hrel
      cases gk with
      | zero =>
        have hkn : k = n := by omega
        subst hkn
        have hnl : ¬ (k : Int) < (k : Int) := by omega
        have hR2 : R = true := by
          have h := HT.out
          rw [List.take_of_length_le (by have := HN.out; omega), List.take_of_length_le (by have := HM.out; omega)] at h
          rw [← HR.out, h]; simp
        subst hR2
        clear hkg
        go_wp2_with fail
        go_ret
        exact ⟨rfl, HB.out⟩
      | succ g =>
        have hlt : k < n := by omega
        have hlt' : (k : Int) < (n : Int) := by omega
        have hk0 : (0 : Int) ≤ (k : Int) := by omega
        have HG := Lib.hid hkg
        obtain ⟨r, hr⟩ : ∃ r, xs[k]? = some r := ⟨_, List.getElem?_eq_getElem (by have := HN.out; omega)⟩
        obtain ⟨s, hs⟩ : ∃ s, ys[k]? = some s := ⟨_, List.getElem?_eq_getElem (by have := HM.out; omega)⟩
        have hka : RwAt wr 2 (rowC xs) A n := H1.out.below (by decide) HB.out
        have hkb : RwAt wr 2 (rowC ys) B n := H2.out.below (by decide) HB.out
        obtain ⟨b1, o1, rfl, -⟩ := hka.2 (by omega)
        obtain ⟨b2, o2, rfl, -⟩ := hkb.2 (by omega)
        have f1 := hka.row HX.out HN.out rfl hr
        have f2 := hkb.row HY.out HM.out rfl hs
        obtain ⟨x0, x1, rfl⟩ := len2 r (HX.out r (List.mem_of_getElem? hr))
        obtain ⟨y0, y1, rfl⟩ := len2 s (HY.out s (List.mem_of_getElem? hs))
        have u0 := f1 0 x0 rfl
        have v0 := f2 0 y0 rfl
        have u1 := f1 1 x1 rfl
        have v1 := f2 1 y1 rfl
        rw [Nat.add_zero] at u0 v0
        have hne := neq_output x0 x1 y0 y1
        obtain ⟨D, hD⟩ : ∃ D, decide ([x0, x1] = [y0, y1]) = D := ⟨_, rfl⟩
        rw [hD] at hne
        have HRR := Lib.hid hr
        have HSS := Lib.hid hs
        have HDD := Lib.hid hD
        clear hkg hka hkb f1 f2 hr hs hD
        cases D with
        | true =>
          have he : [x0, x1] = [y0, y1] := of_decide_eq_true HDD.out
          go_upto_region 6 with fail
          go_quiet (fail)
          go_wp2_with fail
          go_roundg g
          case rel => exact ⟨k + 1, by have := HG.out; omega, by go_num, by show _ = _; rw [List.take_add_one, List.take_add_one, HT.out, HRR.out, HSS.out, he], by first | exact below_drewN HB.out _ | exact HB.out.drew⟩
          case measure => omega
        | false =>
          have hR2 : R = false := by
            rw [← HR.out]
            exact decide_eq_false fun h => by
              have e := HRR.out
              rw [h, HSS.out] at e
              have := of_decide_eq_false HDD.out
              exact this (by injection e with e; exact e.symm)
          subst hR2
          go_upto_region 6 with fail
          go_quiet (fail)
          go_wp2_with fail
          go_ret
          exact ⟨rfl, by first | exact below_drewN HB.out _ | exact HB.out.drew⟩
  · have hR : decide (xs = ys) = false := decide_eq_false fun h => hl (by rw [hn, hm, h])
    rw [hR]
    have hne : ((n : Int) != (m : Int)) = true := by
      rw [bne_iff_ne]; omega
    clear hR hn hm hx hy h1 h2
    go_enter Try.func69, Try.ntmps69
    go_wp2_with fail
    go_ret
    exact ⟨rfl, Below.refl _ _⟩

end Go.Proofs.Ytadikcioacaphaa
