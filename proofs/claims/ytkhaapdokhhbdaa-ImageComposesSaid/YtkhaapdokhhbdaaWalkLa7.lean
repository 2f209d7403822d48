/-
  What last of the document's answer returns: the index of the last page with a number. Conditions: at most 2000 pages. And 'append' of a slice that may be nil as one step of a region that draws.
-/
import Derived.Test.YtkhaapdokhhbdaaWalkCm7
import Derived.Test.YtkhaapdokhhbdaaWalkAn
import Derived.Test.YtkhaapdokhhbdaaWalkSq
import Derived.Deep.RegionLaw
import Derived.RegionTactic
namespace Go.Proofs.Ytkhaapdokhhbdaa
open Go.RowKit

/-- The index of the last page with a number, or -1. -/
def LaRes (ps : List Pg) (n : Int) (r : Int) : Prop := (r = -1 ∧ ∀ p ∈ ps, p.1 ≠ n) ∨ ∃ i : Nat, r = i ∧ (∃ p, ps[i]? = some p ∧ p.1 = n) ∧ ∀ (j : Nat) (q : Pg), i < j → ps[j]? = some q → q.1 ≠ n
theorem LaRes.la {ps : List Pg} {p : Pg} {i : Nat} {r : Int} (h : LaRes ps p.1 r) (hp : ps[i]? = some p) : IsLa ps i ↔ r = i := by
  rcases h with ⟨rfl, h⟩ | ⟨k, rfl, ⟨q, hq, hqn⟩, h⟩
  · exact absurd rfl (h p (List.mem_of_getElem? hp))
  · constructor
    · intro hl
      by_cases hk : k = i
      · rw [hk]
      · by_cases hlt : i < k
        · exact absurd hqn (hl p hp k q hlt hq)
        · exact absurd rfl (h i p (by omega) hp)
    · intro e
      have e' : k = i := by omega
      subst e'
      intro p' hp' j q' hj hq'
      rw [hp] at hp'
      injection hp' with hp'
      subst hp'
      exact h j q' hj hq'
theorem LaRes.none {ps : List Pg} {n r : Int} (h : LaRes ps n r) : lastS ps n = none ↔ r < 0 := by
  rw [lastS_none]
  rcases h with ⟨rfl, h⟩ | ⟨k, rfl, ⟨q, hq, hqn⟩, h⟩
  · exact ⟨fun _ => by decide, fun _ => h⟩
  · exact ⟨fun hn => absurd hqn (hn q (List.mem_of_getElem? hq)), fun hlt => by omega⟩
theorem LaRes.lt {ps : List Pg} {n r : Int} (h : LaRes ps n r) : -1 ≤ r ∧ r < ps.length := by
  rcases h with ⟨rfl, h⟩ | ⟨k, rfl, ⟨q, hq, hqn⟩, h⟩
  · omega
  · have := (List.getElem?_eq_some_iff.1 hq).1; omega

set_option maxHeartbeats 1000000 in
set_option maxRecDepth 100000 in
theorem last_any {w0 : World} {ss : List Sl} (ps : List Pg) (A : Option Addr) (m c : Nat) (n : Int) (w : World) (h0 : PgIn w0 ps ss A m) (hb : Below w0.heap.size w0 w) (hm : m ≤ 2000) :
    Calls Try.prog 33 #[.slice A m c, .int .i64 n] w fun e w' => (∃ r, e = .returned (.int .i64 r) ∧ LaRes ps n r) ∧ w' = w := by
  have H := Lib.hid h0
  have HM := Lib.hid h0.len
  have HB := Lib.hid hb
  clear h0 hb
  go_enter Try.func33, Try.ntmps33
  go_wp2_with fail
  go_loopg [5] m (fun g i wr => ∃ z : Int, i = .int .i64 z ∧ z + 1 ≤ g ∧ g ≤ z + 1 ∧ g ≤ m ∧ Hid (∀ (j : Nat) (q : Pg), g ≤ j → ps[j]? = some q → q.1 ≠ n) ∧ Hid (wr = w))
  case atStart => exact ⟨(m : Int) - 1, by first | rfl | go_num, by omega, by omega, Nat.le_refl _, fun j q hj hq => by have := (List.getElem?_eq_some_iff.1 hq).1; have := HM.out; omega, by show _ = _; rfl⟩
  case round =>
    obtain ⟨z, rfl, hz1, hz2, hgm, HN, HWR⟩ := hrel
    have ew : wr = w := HWR.out
    subst ew
    clear HWR
    cases gk with
    | zero =>
      obtain rfl : z = -1 := by omega
      clear hz1 hz2
      go_wp2_with fail
      go_ret
      exact ⟨⟨-1, rfl, .inl ⟨rfl, fun p hp => by obtain ⟨j, hj⟩ := List.getElem?_of_mem hp; exact HN.out j p (Nat.zero_le _) hj⟩⟩, rfl⟩
    | succ g =>
      obtain rfl : z = (g : Int) := by omega
      have hlt : g < m := by omega
      have hlt' : (g : Int) < (m : Int) := by omega
      obtain ⟨b, o, p, s, rfl, hp, _, f1, _⟩ := H.out.get hlt
      have f1 := cellUp HB.out f1
      obtain ⟨pn, pc⟩ := p
      simp only at f1
      have HP := Lib.hid hp
      clear hz1 hz2 hp
      by_cases he : pn = n
      · subst he
        have HQ : Hid (LaRes ps pn (g : Int)) := .inr ⟨g, rfl, ⟨(pn, pc), HP.out, rfl⟩, fun j q hj hq => HN.out j q (by omega) hq⟩
        go_wp2_with fail
        go_ret
        exact ⟨⟨g, rfl, HQ.out⟩, rfl⟩
      · have hne : (pn == n) = false := beq_eq_false_iff_ne.2 he
        have HNX : Hid (∀ (j : Nat) (q : Pg), g ≤ j → ps[j]? = some q → q.1 ≠ n) := fun j q hj hq => by
          by_cases hjg : j = g
          · subst hjg
            rw [HP.out] at hq
            injection hq with hq
            subst hq
            exact he
          · exact HN.out j q (by omega) hq
        clear he
        go_wp2_with fail
        go_roundg g
        case rel => exact ⟨(g : Int) - 1, by first | rfl | go_num, by omega, by omega, by omega, HNX.out, by show _ = _; rfl⟩
        case measure => omega
/-- 'append' of a slice that may be nil as one step of a region that draws. -/
theorem step_append_rw {P : Program} {w : World} {ops : Array Oper} {o : Oper} {a : Act} {K : Act → World → Prop} {Q : Exit → Act → World → Prop} {E : Prop}
    (hg : o.guard = none) (s x : Operand) (t : TypeId) (hop : o.op = Op.call { callee := Callee.builtin Builtin.append, args := #[s, x], argTypes := #[t, t] })
    (base : Nat) (e : TypeId) (i : TypeInfo) (z : Value) (size bytes : Nat) (ht : P.underlying t = some (.slice e)) (hi : P.info? e = some i) (hz : i.zero = some z)
    (hsize : i.size = size) (hby : i.bytes = bytes) (hzs : z.cells.size = size) (hsz : 0 < size)
    (v : Value) (n : Nat) (xs : List Value) (hs : a.eval s = v) (hown : w.ownsRow base e size v n xs)
    (A : Option Addr) (m c : Nat) (news : List Value) (hx : a.eval x = .slice A m c) (hr : RwAt w size news A m) (hnil : A = none → c = 0) (h1 : ∀ u ∈ news, u.oneCell' = true)
    (h63 : n + m ≤ maxLen) (hbytes : (n + m) * bytes ≤ 140737488355328) (hbase : base ≤ w.heap.size)
    (hK : ∀ v' w', w'.ownsRow base e size v' (n + m) (xs ++ news) → w.grownBy w' v.ownBlock → (v'.ownBlock = v.ownBlock ∨ v'.ownBlock = some w.heap.size) → K (a.put o.dst v') w') :
    if Region.wanted o (yielded ops a.tmps) = true then Oper.wp P o a w K Q else E := by
  cases A with
  | none =>
    have hm : m = 0 := by
      rcases Nat.eq_zero_or_pos m with h0 | h0
      · exact h0
      · obtain ⟨_, _, e, _⟩ := hr.2 h0
        cases e
    have hc := hnil rfl
    subst hm hc
    have hn : news = [] := List.eq_nil_of_length_eq_zero (by have := hr.1; omega)
    subst hn
    have hw : Region.wanted o (yielded ops a.tmps) = true := by simp [Region.wanted, hg]
    rw [if_pos hw]
    have hrun := run_append_owned_none (P := P) (w := w) base t o.type e i size ht hi v n xs hown
    unfold Oper.wp
    simp only [execOp, hop, resolve, invoke, builtin, Sem.run_bind, Sem.run_pure, Result.andThen_ok, List.map_toArray, List.map_cons, List.map_nil, hs, hx, hrun]
    exact hK _ _ (by rw [List.append_nil, Nat.add_zero]; exact hown) ⟨rfl, rfl, rfl, Nat.le_refl _, fun _ _ _ => rfl⟩ (.inl rfl)
  | some ad =>
    refine step_append_own_at hg s x t hop base e i z size bytes ht hi hz hsize hby hzs hsz v n xs hs hown ad m c news hx hr.1 (fun j u hj => ?_) h1 h63 hbytes hbase hK
    have hjl := (List.getElem?_eq_some_iff.1 hj).1
    rw [hr.1] at hjl
    have h0 : 0 < m := Nat.pos_of_ne_zero (fun e => by subst e; omega)
    obtain ⟨b, o', e, hc⟩ := hr.2 h0
    injection e with e
    subst e
    rw [Addr.add_lit]
    exact hc j u hj
end Go.Proofs.Ytkhaapdokhhbdaa
