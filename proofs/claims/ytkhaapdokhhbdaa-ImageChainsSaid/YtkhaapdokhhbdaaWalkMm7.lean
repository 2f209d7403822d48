/-
  A map that is filled from pages, as a datum; its keys, its look-up; pages that came in, page by page. No conditions.
-/
import Derived.Test.YtkhaapdokhhbdaaWalkKs
namespace Go.Proofs.Ytkhaapdokhhbdaa
open Go.RowKit Go.Maps Go.Sort

/-- The map behind the entries of a list. -/
def mapD (l : List (Int × Value)) : DataW Value := l.foldl (fun m e => m.put (.int .i64 e.1) (.held e.2)) (.map [])
theorem mapD_snoc (l : List (Int × Value)) (e : Int × Value) : mapD (l ++ [e]) = (mapD l).put (.int .i64 e.1) (.held e.2) := by simp [mapD, List.foldl_append]
/-- The last entry with a key. -/
def lastV : List (Int × Value) → Int → Option Value
  | [], _ => none
  | e :: r, n => match lastV r n with | some v => some v | none => if e.1 = n then some e.2 else none
theorem lit_ne {a b : Int} (h : a ≠ b) : Lit.int .i64 a ≠ .int .i64 b := fun e => h (by injection e)
theorem isKey_int (a : Int) : WideAt.IsKeyLit (.int .i64 a) := by simp [WideAt.IsKeyLit]
theorem at_fold : ∀ (l : List (Int × Value)) (D : DataW Value) (n : Int) (z : DataW Value), IsMap D → (l.foldl (fun m e => m.put (.int .i64 e.1) (.held e.2)) D).atKey (.int .i64 n) z = match lastV l n with | some v => .held v | none => D.atKey (.int .i64 n) z
  | [], _, _, _, _ => rfl
  | e :: r, D, n, z, h => by
    rw [List.foldl_cons, at_fold r _ n z (h.put _ _)]
    simp only [lastV]
    cases lastV r n with
    | some v => rfl
    | none =>
      by_cases he : e.1 = n
      · subst he
        simp only [if_true]
        exact atKey_put_same h (isKey_int _) _ _
      · simp only [he, if_false]
        exact atKey_put_other (lit_ne fun e => he e.symm) _ _
theorem has_fold : ∀ (l : List (Int × Value)) (D : DataW Value) (n : Int), IsMap D → Maps.has (l.foldl (fun m e => m.put (.int .i64 e.1) (.held e.2)) D) (.int .i64 n) = ((lastV l n).isSome || Maps.has D (.int .i64 n))
  | [], _, _, _ => by simp [lastV]
  | e :: r, D, n, h => by
    rw [List.foldl_cons, has_fold r _ n (h.put _ _)]
    simp only [lastV]
    cases lastV r n with
    | some v => simp
    | none =>
      by_cases he : e.1 = n
      · subst he
        rw [has_put_same h (isKey_int _)]; simp
      · rw [has_put_other (lit_ne fun e => he e.symm)]; simp [he]
theorem mapD_at (l : List (Int × Value)) (n : Int) (z : DataW Value) : (mapD l).atKey (.int .i64 n) z = match lastV l n with | some v => .held v | none => z := at_fold l _ n z isMap_empty
theorem mapD_has (l : List (Int × Value)) (n : Int) : Maps.has (mapD l) (.int .i64 n) = (lastV l n).isSome := by
  have := has_fold l (.map []) n isMap_empty
  rw [mapD, this]; simp [Maps.has]
/-- The entries of pages. -/
def vals : List Pg → List Sl → List (Int × Value)
  | p :: r, s :: t => (p.1, .slice s.1 p.2.length s.2) :: vals r t
  | _, _ => []
theorem vals_len : ∀ (ps : List Pg) (ss : List Sl), ss.length = ps.length → (vals ps ss).length = ps.length
  | [], [], _ => rfl
  | _ :: r, _ :: t, h => by simp only [List.length_cons] at h; simp only [vals, List.length_cons, vals_len r t (by omega)]
theorem vals_app : ∀ (ps qs : List Pg) (ss ts : List Sl), ss.length = ps.length → vals (ps ++ qs) (ss ++ ts) = vals ps ss ++ vals qs ts
  | [], _, [], _, _ => rfl
  | p :: r, qs, s :: t, ts, h => by simp only [List.length_cons] at h; simp only [List.cons_append, vals, vals_app r qs t ts (by omega)]
theorem vals_at : ∀ (ps : List Pg) (ss : List Sl) (i : Nat) (p : Pg) (s : Sl), ps[i]? = some p → ss[i]? = some s → (vals ps ss)[i]? = some (p.1, .slice s.1 p.2.length s.2)
  | [], _, _, _, _, h, _ => by simp at h
  | _ :: _, [], _, _, _, _, h => by simp at h
  | q :: r, u :: t, 0, p, s, h, h' => by
    simp only [List.getElem?_cons_zero, Option.some.injEq] at h h'
    subst h h'
    rfl
  | q :: r, u :: t, i + 1, p, s, h, h' => by
    simp only [List.getElem?_cons_succ] at h h'
    simpa only [vals, List.getElem?_cons_succ] using vals_at r t i p s h h'
theorem vals_last {S : Nat → Prop} {w : World} : ∀ {ps : List Pg} {ss : List Sl}, PgAll S w ps ss → ∀ n, (lastS ps n = none ∧ lastV (vals ps ss) n = none) ∨ ∃ c A k, lastS ps n = some c ∧ lastV (vals ps ss) n = some (.slice A c.length k) ∧ c.length ≤ k ∧ ZsS S w c A
  | [], [], _, _ => .inl ⟨rfl, rfl⟩
  | _ :: _, [], h, _ => h.elim
  | [], _ :: _, h, _ => h.elim
  | p :: r, s :: t, h, n => by
    rcases vals_last h.2 n with ⟨h1, h2⟩ | ⟨c, A, k, h1, h2, h3⟩
    · simp only [lastS, vals, lastV, h1, h2]
      by_cases hp : p.1 = n
      · simp only [hp, if_true]
        exact .inr ⟨p.2, s.1, s.2, rfl, rfl, h.1⟩
      · simp [hp]
    · right
      simp only [lastS, vals, lastV, h1, h2]
      exact ⟨c, A, k, rfl, rfl, h3⟩
theorem sorted_keys {L : List Pg} {z : List Pg} {l : List (Int × Value)} {w : World} {b n : Nat} {ss : List Int} (hL : IsComp L z) (hz : ∀ n, (lastV l n).isSome = (lastS z n).isSome) (hown : w.ownsMap Try.prog 3 heldE b n (mapD l)) (hs : ss.Perm (intKeys (mapD l))) :
    ss.mergeSort (fun x y => decide (x ≤ y)) = L.map Prod.fst := by
  obtain ⟨es, clock, hb, F, _, hD⟩ := hown
  have hk : ∀ p ∈ (es.toList.map (WideElems.rg Try.prog 3 heldE)).foldr DataW.insert [], ∃ x, p.1 = .int .i64 x := fun p hp => by
    obtain ⟨v, hv⟩ := fit_keys F p (mem_sorted.1 hp)
    obtain ⟨x, _, hx, _⟩ := Maps.keyOf_i64 Try.underlying3 hv
    exact ⟨x, hx⟩
  have hp : ((es.toList.map (WideElems.rg Try.prog 3 heldE)).foldr DataW.insert []).Pairwise (fun p q => p.1 ≠ q.1) := ((WideShapes.sorted_perm _).pairwise_iff (fun {_ _} hne => Ne.symm hne)).2 (Maps.fit_apart mLaw F)
  have hnd : (L.map Prod.fst).Nodup := hL.1.imp fun {a b} h => by omega
  have h2 : (L.map Prod.fst).Perm (intKeys (mapD l)) := by
    rw [hD]
    refine perm_intKeys hp hk hnd fun x => ?_
    rw [← hD, mapD_has, hz x, List.mem_map]
    constructor
    · rintro ⟨⟨n, c⟩, hq, rfl⟩
      rw [(hL.2 n c).1 hq]; rfl
    · intro h
      obtain ⟨c, hc⟩ := Option.isSome_iff_exists.1 h
      exact ⟨(x, c), (hL.2 x c).2 hc, rfl⟩
  refine (mergeSort_of_perm_i (hs.trans h2.symm)).trans ?_
  have tr : ∀ a b c : Int, leI a b = true → leI b c = true → leI a c = true := fun a b c h1 h2 => by simp only [leI, decide_eq_true_eq] at *; exact Int.le_trans h1 h2
  have tot : ∀ a b : Int, (leI a b || leI b a) = true := fun a b => by simp only [leI, Bool.or_eq_true, decide_eq_true_eq]; exact Int.le_total a b
  refine List.Perm.eq_of_pairwise (le := fun a b => leI a b = true) (fun a b _ _ h1 h2 => ?_) (List.pairwise_mergeSort tr tot _) (hL.1.imp fun {a b} h => ?_) (List.mergeSort_perm _ leI)
  · simp only [leI, decide_eq_true_eq] at h1 h2
    exact Int.le_antisymm h1 h2
  · simp only [leI, decide_eq_true_eq]; omega
/-- 'm[k]' of a map of elements that are read as they stand. -/
theorem wpList_lookup_held (w : World) {ops : Array Oper} {rest : List Oper} {o : Oper} {a : Act} {Q : Exit → Act → World → Prop}
    (hg : o.guard = none) (m x : Operand) (hop : o.op = Op.lookup mT m x false) (b n : Nat) (D : DataW Value)
    (hm : a.eval m = .map (some b)) (hown : w.ownsMap Try.prog 3 heldE b n D) (key : Int) (hx : a.eval x = .int .i64 key) (hkey : keyOf Try.prog 3 (.int .i64 key) = some (.int .i64 key)) (v : Value) (hat : D.atKey (.int .i64 key) (.held (.slice none 0 0)) = .held v)
    (hK : wpList Try.prog ops Q rest (a.put o.dst v) w) :
    wpList Try.prog ops Q (o :: rest) a w := by
  refine wpList_plain hg fun K' hK' => ?_
  obtain ⟨v', ps, hrun, hv⟩ := hown.lookup mLaw Try.underlying54 (mZero w) (zd := .held (.slice none 0 0)) (zp := []) rfl hkey
  have e : v' = v := by
    have := Option.some.inj hv
    have := congrArg Prod.fst this
    rw [hat] at this
    injection this
  subst e
  unfold Oper.wp
  simp [execOp, hop, hm, hx, hrun, Result.andThen]
  exact hK' _ _ hK
/-- Pages of a slice, with the places of their cells. -/
structure PgIn (w : World) (ps : List Pg) (ss : List Sl) (A : Option Addr) (n : Nat) : Prop where
  len : n = ps.length
  row : RwAt w 2 (pgC ps ss) A n
  all : PgAll (fun b => b < w.heap.size) w ps ss
theorem PgIn.of {S : Nat → Prop} {w : World} {ps : List Pg} {A : Option Addr} {n : Nat} (h : PgAt S w ps A n) : ∃ ss, PgIn w ps ss A n := by
  obtain ⟨h1, _, ss, h3, h4⟩ := h
  refine ⟨ss, h1, ⟨by rw [pgC_len ps ss h3.len, h1], fun h0 => ?_⟩, h3.still fun b _ hb => ⟨hb, rfl⟩⟩
  obtain ⟨b, o, hA, _, hc⟩ := h4 h0
  exact ⟨b, o, hA, hc⟩
theorem PgIn.get {w : World} {ps : List Pg} {ss : List Sl} {A : Option Addr} {n : Nat} (h : PgIn w ps ss A n) {i : Nat} (hi : i < n) : ∃ b o p s, A = some ⟨b, o, none⟩ ∧ ps[i]? = some p ∧ ss[i]? = some s ∧ w.cell? ⟨b, o + i * 2, none⟩ = some (.int .i64 p.1) ∧ w.cell? ⟨b, o + i * 2 + 1, none⟩ = some (.slice s.1 p.2.length s.2) := by
  obtain ⟨b, o, hA, hc⟩ := h.row.2 (by omega)
  obtain ⟨p, hp⟩ : ∃ p, ps[i]? = some p := ⟨_, List.getElem?_eq_getElem (by have := h.len; omega)⟩
  obtain ⟨s, hs, _⟩ := h.all.get hp
  have hcc := pgC_at ps ss i p s hp hs
  refine ⟨b, o, p, s, hA, hp, hs, ?_, ?_⟩
  · have := hc _ _ hcc.1; rwa [Nat.mul_comm 2 i] at this
  · have := hc _ _ hcc.2; rwa [Nat.mul_comm 2 i, ← Nat.add_assoc] at this
end Go.Proofs.Ytkhaapdokhhbdaa
