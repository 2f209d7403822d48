/-
  What the law CodecReads of package rollbacknetlaw08 compares: a determinant with itself, and what both readers return as a row, an offset and an error (gens102.py writes this text). No conditions.
-/
import Derived.Test.YtadikcioacaphaaWalkEq
import Derived.Test.YtadikcioacaphaaWalkRw8
namespace Go.Proofs.Ytadikcioacaphaa
open Go.RowKit

set_option maxRecDepth 100000 in
theorem neq_det_same (a0 a1 a2 a3 a4 a5 a6 a7 a8 : Int) (w : World) : (binOp .neq 37 (.agg #[.int .i64 a0, .int .i64 a1, .int .i64 a2, .int .i64 a3, .int .i64 a4, .int .i64 a5, .int .i64 a6, .int .i64 a7, .int .i64 a8]) (.agg #[.int .i64 a0, .int .i64 a1, .int .i64 a2, .int .i64 a3, .int .i64 a4, .int .i64 a5, .int .i64 a6, .int .i64 a7, .int .i64 a8])).run Try.prog w = .ok (.bool false) w := by
  rw [run_neq_struct, run_equalIn_struct w 9999 37 _ _ (by kernel_rfl) (by kernel_rfl)]
  have q := neq_event a2 a3 a4 a5 a6 a7 a8 a2 a3 a4 a5 a6 a7 a8 w
  rw [run_neq_struct] at q
  have p2 : (Op.equalIn 9999 35 (.agg #[.int .i64 a2, .int .i64 a3, .int .i64 a4, .int .i64 a5, .int .i64 a6, .int .i64 a7, .int .i64 a8]) (.agg #[.int .i64 a2, .int .i64 a3, .int .i64 a4, .int .i64 a5, .int .i64 a6, .int .i64 a7, .int .i64 a8])).run Try.prog w = .ok true w := by
    rw [run_equalIn_struct w 9998 35 _ _ (by kernel_rfl) (by kernel_rfl)]
    have p1 : (Op.eqFields 9998 #[.int .i64 a2, .int .i64 a3, .int .i64 a4, .int .i64 a5, .int .i64 a6, .int .i64 a7, .int .i64 a8] #[.int .i64 a2, .int .i64 a3, .int .i64 a4, .int .i64 a5, .int .i64 a6, .int .i64 a7, .int .i64 a8] ((Try.prog.fieldsOf 35).toList.drop 4)).run Try.prog w = .ok (decide ([a7, a8] = [a7, a8])) w := eqF_all Try.prog 9997 w _ _ _ 5 [a7, a8] [a7, a8] (by kernel_rfl) (by kernel_rfl) (by kernel_rfl) (fun i x h => by
      have hi : i < 2 := (List.getElem?_eq_some_iff.1 h).1
      rcases i with _ | _ | i
      all_goals first | (simp at h; subst h; rfl) | (simp at h)) (fun i x h => by
      have hi : i < 2 := (List.getElem?_eq_some_iff.1 h).1
      rcases i with _ | _ | i
      all_goals first | (simp at h; subst h; rfl) | (simp at h))
    have p2 : (Op.equalIn 9998 33 (.agg #[.int .i64 a5, .int .i64 a6]) (.agg #[.int .i64 a5, .int .i64 a6])).run Try.prog w = .ok (decide ([a5, a6] = [a5, a6])) w := by
      rw [run_equalIn_struct w 9997 33 _ _ (by kernel_rfl) (by kernel_rfl), eqF_all Try.prog 9996 w _ _ _ 0 [a5, a6] [a5, a6] (by kernel_rfl) (by kernel_rfl) (by kernel_rfl) (fun i x h => by
      have hi : i < 2 := (List.getElem?_eq_some_iff.1 h).1
      rcases i with _ | _ | i
      all_goals first | (simp at h; subst h; rfl) | (simp at h)) (fun i x h => by
      have hi : i < 2 := (List.getElem?_eq_some_iff.1 h).1
      rcases i with _ | _ | i
      all_goals first | (simp at h; subst h; rfl) | (simp at h))]
    have p3 := eqF_cons Try.prog 9998 w #[.int .i64 a2, .int .i64 a3, .int .i64 a4, .int .i64 a5, .int .i64 a6, .int .i64 a7, .int .i64 a8] #[.int .i64 a2, .int .i64 a3, .int .i64 a4, .int .i64 a5, .int .i64 a6, .int .i64 a7, .int .i64 a8] ((Try.prog.fieldsOf 35).toList.getD 3 default) ((Try.prog.fieldsOf 35).toList.drop 4) (.agg #[.int .i64 a5, .int .i64 a6]) (.agg #[.int .i64 a5, .int .i64 a6]) _ _ (bne_iff_ne.1 (by kernel_rfl)) (by kernel_rfl) (by kernel_rfl) p2 p1
    have p4 := eqF_ints Try.prog 9997 w _ _ _ _ p3 ((Try.prog.fieldsOf 35).toList.take 3) 0 [a2, a3, a4] [a2, a3, a4] (by kernel_rfl) (by kernel_rfl) (by kernel_rfl) (fun i x h => by
      have hi : i < 3 := (List.getElem?_eq_some_iff.1 h).1
      rcases i with _ | _ | _ | i
      all_goals first | (simp at h; subst h; rfl) | (simp at h)) (fun i x h => by
      have hi : i < 3 := (List.getElem?_eq_some_iff.1 h).1
      rcases i with _ | _ | _ | i
      all_goals first | (simp at h; subst h; rfl) | (simp at h))
    have e : (Try.prog.fieldsOf 35).toList = (Try.prog.fieldsOf 35).toList.take 3 ++ ((Try.prog.fieldsOf 35).toList.getD 3 default :: (Try.prog.fieldsOf 35).toList.drop 4) := by kernel_rfl
    rw [e, p4]
    simp
  have p3 := eqF_cons Try.prog 9999 w #[.int .i64 a0, .int .i64 a1, .int .i64 a2, .int .i64 a3, .int .i64 a4, .int .i64 a5, .int .i64 a6, .int .i64 a7, .int .i64 a8] #[.int .i64 a0, .int .i64 a1, .int .i64 a2, .int .i64 a3, .int .i64 a4, .int .i64 a5, .int .i64 a6, .int .i64 a7, .int .i64 a8] ((Try.prog.fieldsOf 37).toList.getD 2 default) ((Try.prog.fieldsOf 37).toList.drop 3) (.agg #[.int .i64 a2, .int .i64 a3, .int .i64 a4, .int .i64 a5, .int .i64 a6, .int .i64 a7, .int .i64 a8]) (.agg #[.int .i64 a2, .int .i64 a3, .int .i64 a4, .int .i64 a5, .int .i64 a6, .int .i64 a7, .int .i64 a8]) true true (bne_iff_ne.1 (by kernel_rfl)) (by kernel_rfl) (by kernel_rfl) p2 (by rw [show (Try.prog.fieldsOf 37).toList.drop 3 = [] from by kernel_rfl]; simp [Op.eqFields])
  have p4 := eqF_ints Try.prog 9998 w _ _ _ _ p3 ((Try.prog.fieldsOf 37).toList.take 2) 0 [a0, a1] [a0, a1] (by kernel_rfl) (by kernel_rfl) (by kernel_rfl) (fun i x h => by
      have hi : i < 2 := (List.getElem?_eq_some_iff.1 h).1
      rcases i with _ | _ | i
      all_goals first | (simp at h; subst h; rfl) | (simp at h)) (fun i x h => by
      have hi : i < 2 := (List.getElem?_eq_some_iff.1 h).1
      rcases i with _ | _ | i
      all_goals first | (simp at h; subst h; rfl) | (simp at h))
  have e : (Try.prog.fieldsOf 37).toList = (Try.prog.fieldsOf 37).toList.take 2 ++ ((Try.prog.fieldsOf 37).toList.getD 2 default :: (Try.prog.fieldsOf 37).toList.drop 3) := by kernel_rfl
  rw [e, p4]
  simp
theorem neq_event_same (a0 a1 a2 a3 a4 a5 a6 : Int) (w : World) : (binOp .neq 35 (.agg #[.int .i64 a0, .int .i64 a1, .int .i64 a2, .int .i64 a3, .int .i64 a4, .int .i64 a5, .int .i64 a6]) (.agg #[.int .i64 a0, .int .i64 a1, .int .i64 a2, .int .i64 a3, .int .i64 a4, .int .i64 a5, .int .i64 a6])).run Try.prog w = .ok (.bool false) w := by
  rw [neq_event]
  simp

/-- What both readers return of n numbers: one row, one offset, one error. -/
theorem row_head (n : Nat) (bs : List Nat) (k : Int) : ∃ (zs : List Int) (m : Int) (ke : Nat), zs.length = n ∧ ∀ (w : World) (e : Ending) (w' : World), RD VRow (.agg ((List.replicate n (0 : Int)).map (Value.int .i64)).toArray) bs (rdS (numsS n) bs k) w e w' → e = .returned (.tuple #[.agg (zs.map (Value.int .i64)).toArray, .int .i64 m, .int .i64 ke]) ∧ Below w.heap.size w w' := by
  cases h : rdS (numsS n) bs k with
  | err ke => exact ⟨List.replicate n 0, 0, ke, by simp, fun w e w' hr => hr⟩
  | ok zs t =>
    refine ⟨zs, (bs.length : Int) - t.length, 0, ?_, fun w e w' hr => ?_⟩
    · unfold rdS at h
      split at h
      · cases h
      · exact numsS_len h
    · obtain ⟨v, rfl, hv, _, hb⟩ := hr
      rw [show v = .agg (zs.map (Value.int .i64)).toArray from hv]
      exact ⟨rfl, hb⟩
end Go.Proofs.Ytadikcioacaphaa
