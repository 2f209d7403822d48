/-
  What a list of pages that came in reads as, and how large its pages are. No conditions of its own.
-/
import Derived.Test.YtkhaapdokhhbdaaLift7
import Derived.Test.YtkhaapdokhhbdaaWalkPm
import Derived.Deep.Slices
import Derived.ChangeSame
import Derived.SizedLaws
namespace Go.Proofs.Ytkhaapdokhhbdaa
open Go.ChangeShapes Go.WideShapes Go.ChangeAt Go.RowKit

theorem pgAll_of {S : Nat → Prop} {w : World} : ∀ (ps : List Pg) (ss : List Sl), ss.length = ps.length → (∀ (i : Nat) (p : Pg) (s : Sl), ps[i]? = some p → ss[i]? = some s → p.2.length ≤ s.2 ∧ ZsS S w p.2 s.1) → PgAll S w ps ss
  | [], [], _, _ => trivial
  | [], _ :: _, h, _ => by simp at h
  | _ :: _, [], h, _ => by simp at h
  | p :: r, s :: t, hl, h => ⟨h 0 p s rfl rfl, pgAll_of r t (by simpa using hl) fun i p s hp hs => h (i + 1) p s hp hs⟩
theorem pgCells_of {w : World} {b : Nat} : ∀ (ps : List Pg) (ss : List Sl) (o : Nat), (∀ (i : Nat) (p : Pg) (s : Sl), ps[i]? = some p → ss[i]? = some s → CellsAt w b (o + i * 2) [.int .i64 p.1, .slice s.1 p.2.length s.2]) → CellsAt w b o (pgC ps ss)
  | [], _, _, _ => fun j u hj => by simp [pgC] at hj
  | _ :: _, [], _, _ => fun j u hj => by simp [pgC] at hj
  | p :: r, s :: t, o, h => fun j u hj => by
    have h0 := h 0 p s rfl rfl
    have ih := pgCells_of r t (o + 2) fun i p s hp hs => by
      have := h (i + 1) p s hp hs
      rwa [show o + (i + 1) * 2 = o + 2 + i * 2 by omega] at this
    match j with
    | 0 => simpa using h0 0 u (by simpa [pgC] using hj)
    | 1 => simpa using h0 1 u (by simpa [pgC] using hj)
    | j + 2 =>
      have := ih j u (by simpa [pgC] using hj)
      rwa [show o + 2 + j = o + (j + 2) by omega] at this
section
variable {H : Type} {enc : TypeId × Value → H}
theorem cellsPg : Try.prog.cellsOf 37 = 2 := by kernel_rfl
theorem cellsSl : Try.prog.cellsOf 22 = 1 := by kernel_rfl
theorem bytesI : Try.prog.bytesOf 3 = 8 := by kernel_rfl
theorem weightsAll_mem {P : Program} {e : TypeId} {d : DataW H} {k : Nat} : ∀ {l : List (DataW H)}, d ∈ l → k ∈ d.weights P e → k ∈ DataW.weightsAll P e l
  | x :: r, h, hk => by
    simp only [DataW.weightsAll, List.mem_append]
    rcases List.mem_cons.1 h with rfl | h
    · exact .inl hk
    · exact .inr (weightsAll_mem h hk)
set_option maxRecDepth 100000 in
/-- A list of ints in a struct that came in. -/
theorem open_in {W : World} {fuel : Nat} {cs : List Value} {y : DataW H × List MemPlace} (h : DataW.trod enc Try.prog W 0 (fun _ => true) true fuel 22 cs = some y) :
    ∃ A n c zs, cs = [.slice A n c] ∧ n = List.length zs ∧ n ≤ c ∧ ZsS (fun _ => True) W zs A ∧ (n = 0 ∨ ∃ k, n * 8 ≤ k ∧ k ∈ y.1.weights Try.prog 22) := by
  rcases open_ints Try.underlying22 Try.underlying3 cellsI h with ⟨hcs, hx⟩ | ⟨a, len, cap, zs, hcs, _, hl, hm, hz, hx, hcell, hwz⟩
  · exact ⟨none, 0, 0, [], hcs, rfl, Nat.le_refl _, ⟨by decide, fun h => absurd h (by decide)⟩, .inl rfl⟩
  · simp only [if_true] at hz
    unfold maxLen at hm
    have htl : (zs.take len).length = len := by rw [List.length_take]; omega
    refine ⟨some a, len, cap, zs.take len, hcs, htl.symm, hl, ⟨by omega, fun h0 => ?_⟩, .inr ⟨cap * 8, by omega, ?_⟩⟩
    · obtain ⟨ab, ao, spot⟩ := a
      have hspot : spot = none := by simpa [Addr.add] using World.cell?_spot (hcell 0 (by omega))
      subst hspot
      refine ⟨ab, ao, rfl, trivial, fun i hin => ?_⟩
      have hci := hcell i (by omega)
      rw [Addr.add_lit] at hci
      rw [hci, List.getD_eq_getElem?_getD, List.getD_eq_getElem?_getD, List.getElem?_take_of_lt (by omega)]
    · rw [hx]
      simp only [DataW.weights, Try.underlying22, bytesI]
      refine List.mem_cons.2 (.inl ?_)
      simp [lits]
      omega
set_option maxRecDepth 100000 in
/-- What a list of pages that came in gives. -/
theorem open_pgs {W : World} {base : Nat} {v1 : Value} {d1 : DataW H} {p1 : List MemPlace} (hval : Value.okWide Try.prog W .any base 29 v1) (h1 : DataW.Trod enc Try.prog W 0 (fun _ => true) true 29 v1 d1 p1) :
    ∃ A n c ps, v1 = .slice A n c ∧ PgAt (fun _ => True) W ps A n ∧ n ≤ c ∧ (A = none → c = 0) ∧ ∀ p ∈ ps, (-9223372036854775808 ≤ p.1 ∧ p.1 ≤ 9223372036854775807) ∧ (p.2.length = 0 ∨ ∃ k, p.2.length * 8 ≤ k ∧ k ∈ d1.weights Try.prog 29) := by
  obtain ⟨A, len0, cap0, rfl⟩ := okWide_slice Try.underlying29 hval
  obtain ⟨fuel, hf⟩ := h1
  rcases Go.Deep.open_slice Try.underlying29 hf with ⟨hcs, _⟩ | ⟨a, len, cap, m, nn, D, Pl, hcs, _, hl, hcm, hmm, hx0, hi⟩
  · simp [Value.cells] at hcs
    obtain ⟨rfl, rfl, rfl⟩ := hcs
    exact ⟨none, 0, 0, [], rfl, PgAt.nil _ _, Nat.le_refl _, fun _ => rfl, fun p hp => by simp at hp⟩
  · simp [Value.cells] at hcs
    obtain ⟨rfl, e2, e3⟩ := hcs
    subst e2 e3
    simp only [if_true] at hmm
    subst hmm
    unfold maxLen at hcm
    have hx : ∀ i, i < len0 → ∃ q : Pg × Sl, q.1.2.length ≤ q.2.2 ∧ ZsS (fun _ => True) W q.1.2 q.2.1 ∧ (∀ j u, ([.int .i64 q.1.1, .slice q.2.1 q.1.2.length q.2.2] : List Value)[j]? = some u → W.cell? (a.add (i * 2 + j)) = some u) ∧ (-9223372036854775808 ≤ q.1.1 ∧ q.1.1 ≤ 9223372036854775807) ∧ (q.1.2.length = 0 ∨ ∃ k, q.1.2.length * 8 ≤ k ∧ k ∈ (D i).weights Try.prog 37) := fun i hil => by
      obtain ⟨cs', hc, ht⟩ := hi i (by omega)
      rw [cellsPg] at hc
      obtain ⟨_, hcl, hat⟩ := World.cells?_some hc
      obtain ⟨y0, y1, k, he, _, h0, h1⟩ := trod_struct2 Try.underlying37 ht
      match cs', hcl with
      | [c0, c1], _ =>
        obtain ⟨z1, hz1, _, hwf⟩ := DataW.trod_int Try.underlying3 (show _ = some y0 from h0)
        have ha1 : ([c0, c1].drop 0).take (Try.prog.cellsOf 3) = [.int .i64 z1] := hz1
        rw [cellsI] at ha1
        have ha' : c0 = .int .i64 z1 := by simpa using ha1
        have h1' : DataW.trod enc Try.prog W 0 (fun _ => true) true k 22 (([c0, c1].drop 1).take (Try.prog.cellsOf 22)) = some y1 := h1
        rw [cellsSl] at h1'
        obtain ⟨A1, n1, k1, zs, hcs1, hn1, hk1, hzs, hw1⟩ := open_in h1'
        have hb' : c1 = .slice A1 n1 k1 := by simpa using hcs1
        subst ha' hb' hn1
        refine ⟨((z1, zs), (A1, k1)), hk1, hzs, fun j u hj => ?_, of_wf64 hwf, ?_⟩
        · have hadd : ∀ x y : Nat, (a.add x).add y = a.add (x + y) := fun x y => by
            unfold Addr.add
            (repeat' split) <;> simp_all <;> omega
          have hj2 : j < 2 := by simpa using (List.getElem?_eq_some_iff.1 hj).1
          rw [← hadd, hat j hj2]
          match j, hj2 with
          | 0, _ => simpa using hj
          | 1, _ => simpa using hj
        · rcases hw1 with h | ⟨kk, hk2, hk3⟩
          · exact .inl h
          · refine .inr ⟨kk, hk2, ?_⟩
            have he' : D i = .agg [y0.1, y1.1] := by injection he
            rw [he']
            simp only [DataW.weights, Try.underlying37]
            show kk ∈ DataW.weightsEach Try.prog [3, 22] [y0.1, y1.1]
            simp only [DataW.weightsEach, List.mem_append]
            exact .inr (.inl hk3)
    obtain ⟨q, hq⟩ := Go.Deep.choose_lt hx
    have hps : ∀ i p, ((List.range len0).map fun i => (q i).1)[i]? = some p → i < len0 ∧ p = (q i).1 := fun i p h => by
      have hlt := (List.getElem?_eq_some_iff.1 h).1
      simp only [List.length_map, List.length_range] at hlt
      rw [List.getElem?_map, List.getElem?_range hlt] at h
      exact ⟨hlt, by simpa using h.symm⟩
    have hss : ∀ i s, ((List.range len0).map fun i => (q i).2)[i]? = some s → s = (q i).2 := fun i p h => by
      have hlt := (List.getElem?_eq_some_iff.1 h).1
      simp only [List.length_map, List.length_range] at hlt
      rw [List.getElem?_map, List.getElem?_range hlt] at h
      simpa using h.symm
    refine ⟨some a, len0, m, (List.range len0).map fun i => (q i).1, rfl, ⟨by simp, by omega, (List.range len0).map fun i => (q i).2, pgAll_of _ _ (by simp) fun i p s hp hs => ?_, fun h0 => ?_⟩, hl, fun e => (by cases e), fun p hp => ?_⟩
    · obtain ⟨hlt, rfl⟩ := hps i p hp
      rw [hss i s hs]
      exact ⟨(hq i hlt).1, (hq i hlt).2.1⟩
    · obtain ⟨ab, ao, spot⟩ := a
      have hspot : spot = none := by
        have := World.cell?_spot ((hq 0 h0).2.2.1 0 _ rfl)
        simpa [Addr.add] using this
      subst hspot
      refine ⟨ab, ao, rfl, trivial, pgCells_of _ _ _ fun i p s hp hs j u hj => ?_⟩
      obtain ⟨hlt, rfl⟩ := hps i p hp
      rw [hss i s hs] at hj
      have := (hq i hlt).2.2.1 j u hj
      rwa [Addr.add_lit, ← Nat.add_assoc] at this
    · obtain ⟨i, hi', rfl⟩ := List.mem_map.1 hp
      have hlt := List.mem_range.1 hi'
      refine ⟨(hq i hlt).2.2.2.1, ?_⟩
      rcases (hq i hlt).2.2.2.2 with h | ⟨kk, hk2, hk3⟩
      · exact .inl h
      · refine .inr ⟨kk, hk2, ?_⟩
        have e : d1 = .slice ((List.range len0).map D) ((List.range (m - len0)).map fun j => D (len0 + j)) := by injection hx0
        rw [e]
        simp only [DataW.weights, Try.underlying29]
        refine List.mem_cons.2 (.inr (List.mem_append.2 (.inl (weightsAll_mem (List.mem_map.2 ⟨i, hi', rfl⟩) hk3))))
end
end Go.Proofs.Ytkhaapdokhhbdaa
