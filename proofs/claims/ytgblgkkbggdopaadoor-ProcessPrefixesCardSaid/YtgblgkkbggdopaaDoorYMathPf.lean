/-
  The sends and the outputs behind some of the events are the first ones of those behind all; small facts for the law ProcessPrefixes. No conditions.
-/
import Derived.Test.YtgblgkkbggdopaaDoorYWalkLb
import Derived.Test.YtgblgkkbggdopaaDoorYWalkAt
namespace Go.Proofs.YtgblgkkbggdopaaDoor
open Go.RowKit

theorem addE_pre (k : Int) : ∀ (es : List (Int × Int × Int)) (o : Int) (r : List (List Int) × List (List Int)), ∃ x y, (addE k o es r).1 = r.1 ++ x ∧ (addE k o es r).2 = r.2 ++ y
  | [], _, r => ⟨[], [], by simp [addE], by simp [addE]⟩
  | e :: es, o, r => by
    unfold addE
    split
    · obtain ⟨x, y, h1, h2⟩ := addE_pre k es (o + 1) (r.1 ++ [[k, o, e.2.1, e.2.2]], r.2)
      exact ⟨_, y, by rw [h1, List.append_assoc], h2⟩
    · obtain ⟨x, y, h1, h2⟩ := addE_pre k es o (r.1, r.2 ++ [[k, e.2.2]])
      exact ⟨x, _, h1, by rw [h2, List.append_assoc]⟩
theorem nextP_pre (c : Cd) (self procs : Int) (s : PS) (e : List Int) : ∃ x y, (nextP c self procs s e).sent = s.sent ++ x ∧ (nextP c self procs s e).outs = s.outs ++ y := by
  unfold nextP exeP
  exact addE_pre _ _ _ _
theorem foldP_pre (c : Cd) (self procs : Int) : ∀ (l : List (List Int)) (s : PS), ∃ x y, (l.foldl (nextP c self procs) s).sent = s.sent ++ x ∧ (l.foldl (nextP c self procs) s).outs = s.outs ++ y
  | [], s => ⟨[], [], by simp, by simp⟩
  | e :: l, s => by
    obtain ⟨x, y, h1, h2⟩ := foldP_pre c self procs l (nextP c self procs s e)
    obtain ⟨x', y', h3, h4⟩ := nextP_pre c self procs s e
    exact ⟨x' ++ x, y' ++ y, by rw [List.foldl_cons, h1, h3, List.append_assoc], by rw [List.foldl_cons, h2, h4, List.append_assoc]⟩
theorem replayP_pre (c : Cd) (self procs : Int) (l : List (List Int)) (k : Nat) : ∃ x y, (replayP c self procs l).sent = (replayP c self procs (l.take k)).sent ++ x ∧ (replayP c self procs l).outs = (replayP c self procs (l.take k)).outs ++ y := by
  have h := foldP_pre c self procs (l.drop k) (replayP c self procs (l.take k))
  have e : (l.drop k).foldl (nextP c self procs) (replayP c self procs (l.take k)) = replayP c self procs l := by
    unfold replayP
    rw [← List.foldl_append, List.take_append_drop]
  rwa [e] at h

theorem cap_of_own {w : World} {base k n c : Nat} {T : TypeId} {A : Option Addr} {xs : List Value} (h : w.ownsRow base T k (.slice A n c) n xs) : n ≤ c := by
  rcases h.2 with ⟨e, h0⟩ | ⟨g, cap, cur, e, -, -, hc, -⟩
  · omega
  · injection e with _ _ e
    omega
/-- What Replay returned, with the capacities. -/
def RdCap (s : PS) (w : World) (e : Ending) (w' : World) : Prop :=
  ∃ (Z V S O : Option Addr) (zc vc sc oc : Nat), e = .returned (.agg #[.slice Z s.cells.length zc, .slice V s.evs.length vc, .slice S s.sent.length sc, .slice O s.outs.length oc]) ∧ SRd w' s Z V S O ∧ Below w.heap.size w w' ∧ s.evs.length ≤ vc ∧ s.sent.length ≤ sc ∧ s.outs.length ≤ oc
theorem cap_of_rep {s : PS} {w w' : World} {e : Ending} (h : RepPost w.heap.size s w e w') : RdCap s w e w' := by
  obtain ⟨Z, zc, V, S, O, rfl, hz, ho, hb, -, -, -⟩ := h
  obtain ⟨V0, vc, rfl⟩ := own_slice ho.evs
  obtain ⟨S0, sc, rfl⟩ := own_slice ho.sent
  obtain ⟨O0, oc, rfl⟩ := own_slice ho.outs
  exact ⟨Z, V0, S0, O0, zc, vc, sc, oc, rfl, ⟨RwAt.own hz, RwAt.own ho.evs, RwAt.own ho.sent, RwAt.own ho.outs⟩, hb, cap_of_own ho.evs, cap_of_own ho.sent, cap_of_own ho.outs⟩
theorem LbI.last1 {lo : Nat} {l m : List (List Int)} {A B : Option Addr} {u : World} {x : RV} {p : Nat} (h : LbI lo l m A B u (some x) none (some p) none) : x.box (x.in4 u p) p ∧ lo ≤ p := by
  obtain ⟨bx, lp⟩ := h.boxA p rfl
  obtain ⟨ha, ha2⟩ := h.stA x rfl
  exact ⟨sbox_early ha bx fun b o e => by
    have := (ha2 b ⟨o, e⟩).2.1
    intro e2; exact this (by rw [e2]), lp⟩
/-- The states of drawn programs are as wide as their types say. -/
theorem pok_replay (c : Cd) (me : Int) (l : List (List Int)) (h7 : ∀ r ∈ l, r.length = 7) (hl : l.length ≤ 1000) (hk : c.init.length ≤ 1000) : POk (replayP c me 3 l) := by
  obtain ⟨ns1, ns2, ns3, ns4⟩ := replayP_num c me l
  have hcl : (replayP c me 3 l).cells.length = c.init.length := replayP_len _ _ _ _
  have hfw := replayP_few c me 3 l
  have hev := replayP_evs c me 3 l
  exact ⟨by rw [hev]; exact h7, nmbS_len _ me _ (0, -1) ns1, nmbO_len _ _ 0 ns3, by omega, by rw [hev]; omega, by omega, by omega⟩
end Go.Proofs.YtgblgkkbggdopaaDoor
