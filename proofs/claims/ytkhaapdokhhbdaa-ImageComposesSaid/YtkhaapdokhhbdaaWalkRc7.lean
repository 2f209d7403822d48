/-
  What Compose of the document's answer returns: a composition of two lists of pages. Conditions: at most 1000 pages each.
-/
import Derived.Test.YtkhaapdokhhbdaaWalkIn7
namespace Go.Proofs.Ytkhaapdokhhbdaa
open Go.RowKit

/-- The list of pages that has been gathered. -/
def OutSt (w0 w : World) (out : List Pg) (v : Value) : Prop :=
  ∃ V c ss, v = .slice V out.length c ∧ PgIn w out ss V out.length ∧ out.length ≤ c ∧ (out.length = 0 → V = none ∧ c = 0) ∧ Below w0.heap.size w0 w
/-- What a call gives that returns the composition. -/
def RcPost (w : World) (z : List Pg) (e : Ending) (w' : World) : Prop := ∃ L V c, e = .returned (.slice V L.length c) ∧ IsComp L z ∧ PgAt (fun _ => True) w' L V L.length ∧ Below w.heap.size w w'
theorem PgIn.at {w : World} {ps : List Pg} {ss : List Sl} {A : Option Addr} {n : Nat} (h : PgIn w ps ss A n) (hn : n ≤ 9223372036854775807) : PgAt (fun _ => True) w ps A n := by
  refine ⟨h.len, hn, ss, h.all.still fun b _ _ => ⟨trivial, rfl⟩, fun h0 => ?_⟩
  obtain ⟨b, o, hA, hc⟩ := h.row.2 h0
  exact ⟨b, o, hA, trivial, hc⟩
theorem PgIn.page {w W : World} {ps : List Pg} {ss : List Sl} {A : Option Addr} {n i : Nat} {p : Pg} {s : Sl} (h : PgIn w ps ss A n) (hb : Below w.heap.size w W) (hp : ps[i]? = some p) (hs : ss[i]? = some s) : p.2.length ≤ s.2 ∧ ZsS (fun b => b < W.heap.size) W p.2 s.1 := by
  obtain ⟨s', h1, h2, h3⟩ := h.all.get hp
  rw [hs] at h1
  injection h1 with h1
  subst h1
  exact ⟨h2, h3.still fun b hb' hlt => ⟨Nat.lt_of_lt_of_le hlt hb.size, hb.block b hlt⟩⟩
theorem OutSt.ins {w0 w w' : World} {out : List Pg} {p : Pg} {k : Nat} {V : Option Addr} {c : Nat} {ss' : List Sl} (hb0 : Below w0.heap.size w0 w) (hk : k ≤ out.length) (h : PgIn w' (out.take k ++ p :: out.drop k) ss' V (out.length + 1)) (hc : out.length + 1 ≤ c) (hb : Below w.heap.size w w') :
    OutSt w0 w' (out.take k ++ p :: out.drop k) (.slice V (out.length + 1) c) := by
  have e : (out.take k ++ p :: out.drop k).length = out.length + 1 := by rw [List.length_append, List.length_cons, List.length_take, List.length_drop]; omega
  refine ⟨V, c, ss', by rw [e], by rw [e]; exact h, by rw [e]; exact hc, fun h0 => by rw [e] at h0; omega, hb0.trans (hb.mono hb0.size)⟩
theorem ins_len (out : List Pg) (p : Pg) {k : Nat} (hk : k ≤ out.length) : (out.take k ++ p :: out.drop k).length = out.length + 1 := by rw [List.length_append, List.length_cons, List.length_take, List.length_drop]; omega

set_option maxHeartbeats 1000000 in
set_option maxRecDepth 100000 in
theorem rcompose_any {S S' : Nat → Prop} (xs ys : List Pg) (A B : Option Addr) (n m c d : Nat) (w : World) (h1 : PgAt S w xs A n) (h2 : PgAt S' w ys B m) (hn : n ≤ 1000) (hm : m ≤ 1000) :
    Calls Try.prog 24 #[.slice A n c, .slice B m d] w (RcPost w (xs ++ ys)) := by
  obtain ⟨sx, hx⟩ := PgIn.of h1
  obtain ⟨sy, hy⟩ := PgIn.of h2
  have HX := Lib.hid hx
  have HY := Lib.hid hy
  clear h1 h2 hx hy
  go_enter Try.func24, Try.ntmps24
  go_wp2_with fail
  go_loopg [5, 6] m (fun g v i wr => ∃ (k : Nat) (out : List Pg), k + g = m ∧ i = .int .i64 k ∧ Hid (OutSt w wr out v ∧ out.length ≤ k) ∧ Hid (CmHead ys (fun _ => False) (fun _ => False) k out))
  case atStart => exact ⟨0, [], by omega, rfl, ⟨⟨none, 0, [], rfl, ⟨rfl, rw_none w none, trivial⟩, Nat.le_refl _, fun _ => ⟨rfl, rfl⟩, Below.refl _ _⟩, Nat.le_refl _⟩, CmHead.start ys⟩
  case round =>
    obtain ⟨k, out, hkg, rfl, HO, HC⟩ := hrel
    obtain ⟨V, vc, ss, rfl, hin, hvc, hnil, hbw⟩ := HO.out.1
    have HIN := Lib.hid hin
    have HNIL := Lib.hid hnil
    have HBW := Lib.hid hbw
    have hol := HO.out.2
    clear hin hnil hbw
    cases gk with
    | zero =>
      have hkm : k = m := by omega
      subst hkm
      have hkk : ¬ (k : Int) < (k : Int) := by omega
      have HC2 : Hid (CmHead xs (fun q => lastS ys q.1 = some q.2) (fun n => lastS ys n ≠ none) 0 out) := by
        have h := HC.out
        rw [HY.out.len] at h
        exact h.mid
      clear hkg HC
      go_wp2_with fail
      go_loopg [5, 7] n (fun g v i wr => ∃ (k : Nat) (out : List Pg), k + g = n ∧ i = .int .i64 k ∧ Hid (OutSt w wr out v ∧ out.length ≤ 1000 + k) ∧ Hid (CmHead xs (fun q => lastS ys q.1 = some q.2) (fun n => lastS ys n ≠ none) k out))
      case atStart => exact ⟨0, out, by omega, rfl, ⟨⟨V, vc, ss, rfl, HIN.out, hvc, HNIL.out, HBW.out⟩, by omega⟩, HC2.out⟩
      case round =>
        clear HC2 HO HIN HNIL HBW hvc hol
        obtain ⟨k2, out, hkg, rfl, HO, HC⟩ := hrel
        obtain ⟨V, vc, ss, rfl, hin, hvc, hnil, hbw⟩ := HO.out.1
        have HIN := Lib.hid hin
        have HNIL := Lib.hid hnil
        have HBW := Lib.hid hbw
        have hol := HO.out.2
        clear hin hnil hbw
        cases gk with
        | zero =>
          have hkm : k2 = n := by omega
          subst hkm
          have hkk : ¬ (k2 : Int) < (k2 : Int) := by omega
          have HQ : Hid (RcPost w (xs ++ ys) (.returned (.slice V out.length vc)) wr) := by
            have h := HC.out
            rw [HX.out.len] at h
            exact ⟨out, V, vc, rfl, h.done, HIN.out.at (by omega), HBW.out⟩
          obtain ⟨ol, hol2⟩ : ∃ x, out.length = x := ⟨_, rfl⟩
          rw [hol2] at HQ
          rw [hol2]
          clear hkg HC hol2 HNIL HIN hvc hol HO
          go_wp2_with fail
          go_ret
          exact HQ.out
        | succ g =>
          have hlt : k2 < n := by omega
          have hlt' : (k2 : Int) < (n : Int) := by omega
          have hk0 : (0 : Int) ≤ (k2 : Int) := by omega
          have HG := Lib.hid hkg
          obtain ⟨b1, o1, p, s, rfl, hp, hs, f1, f2⟩ := HX.out.get hlt
          have HPS := Lib.hid (HX.out.page HBW.out hp hs)
          have f1 := cellUp HBW.out f1
          have f2 := cellUp HBW.out f2
          have HP := Lib.hid hp
          have HLA := Lib.hid (fun W hb => last_any xs (some ⟨b1, o1, none⟩) n c p.1 W HX.out hb (by omega))
          have HIA := Lib.hid (insert_any out ss p s V out.length vc wr HIN.out hvc HNIL.out (by omega) HPS.out)
          have HFR : Hid (Below w.heap.size w wr) := HBW.out
          clear hkg hp hs
          obtain ⟨ol, hol2⟩ : ∃ x, out.length = x := ⟨_, rfl⟩
          have HOL := Lib.hid hol2
          rw [hol2] at hol hvc HIA
          rw [hol2]
          obtain ⟨pn, pc⟩ := p
          obtain ⟨A1, c1⟩ := s
          simp only at f1 f2 HLA HIA
          obtain ⟨l1, hl1⟩ : ∃ x, pc.length = x := ⟨_, rfl⟩
          rw [hl1] at f2 HIA
          clear hol2 hl1
          go_wp2_with fail
          refine (HLA.out _ HBW.out).mono ?_
          rintro e w3 ⟨⟨r, rfl, hr⟩, rfl⟩
          have HR := Lib.hid hr
          have hla := hr.la HP.out
          have HLI := Lib.hid hla
          clear hr hla
          by_cases hrk : r = (k2 : Int)
          · subst hrk
            have HIL : Hid (IsLa xs k2) := HLI.out.2 rfl
            go_wp2_with fail
            refine (last_any ys B k d pn _ HY.out HFR.out (by omega)).mono ?_
            rintro e w5 ⟨⟨r2, rfl, hr2⟩, rfl⟩
            have HNN := Lib.hid hr2.none
            clear hr2
            by_cases hr0 : r2 < 0
            · have HNO2 : Hid (lastS ys pn = none) := HNN.out.2 hr0
              go_wp2_with fail
              refine HIA.out.mono ?_
              intro e w4 hp4
              obtain ⟨q, A4, c4, ss4, hq, h1, h2, rfl, hin4, hc4, hb4⟩ := hp4
              have HNX : Hid (CmHead xs (fun q => lastS ys q.1 = some q.2) (fun n => lastS ys n ≠ none) (k2 + 1) (out.take q ++ (pn, pc) :: out.drop q)) := HC.out.yes (fun q h e => by rw [h] at e; cases e) HP.out HIL.out (fun h => h (HNO2.out)) (by rw [HOL.out]; exact hq) h1 h2
              have HNO : Hid (OutSt w w4 (out.take q ++ (pn, pc) :: out.drop q) (.slice A4 (ol + 1) c4) ∧ (out.take q ++ (pn, pc) :: out.drop q).length ≤ 1000 + k2 + 1) := by
                have e := HOL.out
                subst e
                exact ⟨OutSt.ins HFR.out hq hin4 hc4 hb4, by rw [ins_len _ _ hq]; omega⟩
              clear hq h1 h2 hin4 hc4 hb4
              go_wp2_with fail
              go_roundg g
              case rel => exact ⟨k2 + 1, _, by have := HG.out; omega, by go_num, HNO.out, HNX.out⟩
              case measure => omega
            · have HNX : Hid (CmHead xs (fun q => lastS ys q.1 = some q.2) (fun n => lastS ys n ≠ none) (k2 + 1) out) := HC.out.no HP.out (fun h => h.2 (fun e => hr0 (HNN.out.1 e)))
              have HNO : Hid (OutSt w w5 out (.slice V ol vc) ∧ out.length ≤ 1000 + k2 + 1) := by
                have e := HOL.out
                subst e
                exact ⟨⟨V, vc, ss, rfl, HIN.out, hvc, HNIL.out, HFR.out⟩, by omega⟩
              go_wp2_with fail
              go_roundg g
              case rel => exact ⟨k2 + 1, out, by have := HG.out; omega, by go_num, HNO.out, HNX.out⟩
              case measure => omega
          · have hrb : (r == (k2 : Int)) = false := beq_eq_false_iff_ne.2 hrk
            have HNX : Hid (CmHead xs (fun q => lastS ys q.1 = some q.2) (fun n => lastS ys n ≠ none) (k2 + 1) out) := HC.out.no HP.out (fun h => hrk (HLI.out.1 h.1))
            clear hrk
            have HNO : Hid (OutSt w w3 out (.slice V ol vc) ∧ out.length ≤ 1000 + k2 + 1) := by
              have e := HOL.out
              subst e
              exact ⟨⟨V, vc, ss, rfl, HIN.out, hvc, HNIL.out, HFR.out⟩, by omega⟩
            go_wp2_with fail
            go_roundg g
            case rel => exact ⟨k2 + 1, out, by have := HG.out; omega, by go_num, HNO.out, HNX.out⟩
            case measure => omega
    | succ g =>
      have hlt : k < m := by omega
      have hlt' : (k : Int) < (m : Int) := by omega
      have hk0 : (0 : Int) ≤ (k : Int) := by omega
      have HG := Lib.hid hkg
      obtain ⟨b1, o1, p, s, rfl, hp, hs, f1, f2⟩ := HY.out.get hlt
      have HPS := Lib.hid (HY.out.page HBW.out hp hs)
      have f1 := cellUp HBW.out f1
      have f2 := cellUp HBW.out f2
      have HP := Lib.hid hp
      have HLA := Lib.hid (fun W hb => last_any ys (some ⟨b1, o1, none⟩) m d p.1 W HY.out hb (by omega))
      have HIA := Lib.hid (insert_any out ss p s V out.length vc wr HIN.out hvc HNIL.out (by omega) HPS.out)
      have HFR : Hid (Below w.heap.size w wr) := HBW.out
      clear hkg hp hs
      obtain ⟨ol, hol2⟩ : ∃ x, out.length = x := ⟨_, rfl⟩
      have HOL := Lib.hid hol2
      rw [hol2] at hol hvc HIA
      rw [hol2]
      obtain ⟨pn, pc⟩ := p
      obtain ⟨A1, c1⟩ := s
      simp only at f1 f2 HLA HIA
      obtain ⟨l1, hl1⟩ : ∃ x, pc.length = x := ⟨_, rfl⟩
      rw [hl1] at f2 HIA
      clear hol2 hl1
      go_wp2_with fail
      refine (HLA.out _ HBW.out).mono ?_
      rintro e w3 ⟨⟨r, rfl, hr⟩, rfl⟩
      have HR := Lib.hid hr
      have hla := hr.la HP.out
      have HLI := Lib.hid hla
      clear hr hla
      by_cases hrk : r = (k : Int)
      · subst hrk
        have HIL : Hid (IsLa ys k) := HLI.out.2 rfl
        go_wp2_with fail
        refine HIA.out.mono ?_
        intro e w4 hp4
        obtain ⟨q, A4, c4, ss4, hq, h1, h2, rfl, hin4, hc4, hb4⟩ := hp4
        have HNX : Hid (CmHead ys (fun _ => False) (fun _ => False) (k + 1) (out.take q ++ (pn, pc) :: out.drop q)) := HC.out.yes (fun _ h => h.elim) HP.out HIL.out (fun h => h) (by rw [HOL.out]; exact hq) h1 h2
        have HNO : Hid (OutSt w w4 (out.take q ++ (pn, pc) :: out.drop q) (.slice A4 (ol + 1) c4) ∧ (out.take q ++ (pn, pc) :: out.drop q).length ≤ k + 1) := by
          have e := HOL.out
          subst e
          exact ⟨OutSt.ins HFR.out hq hin4 hc4 hb4, by rw [ins_len _ _ hq]; omega⟩
        clear hq h1 h2 hin4 hc4 hb4
        go_wp2_with fail
        go_roundg g
        case rel => exact ⟨k + 1, _, by have := HG.out; omega, by go_num, HNO.out, HNX.out⟩
        case measure => omega
      · have hrb : (r == (k : Int)) = false := beq_eq_false_iff_ne.2 hrk
        have HNX : Hid (CmHead ys (fun _ => False) (fun _ => False) (k + 1) out) := HC.out.no HP.out (fun h => hrk (HLI.out.1 h.1))
        clear hrk
        have HNO : Hid (OutSt w w3 out (.slice V ol vc) ∧ out.length ≤ k + 1) := by
          have e := HOL.out
          subst e
          exact ⟨⟨V, vc, ss, rfl, HIN.out, hvc, HNIL.out, HFR.out⟩, by omega⟩
        go_wp2_with fail
        go_roundg g
        case rel => exact ⟨k + 1, out, by have := HG.out; omega, by go_num, HNO.out, HNX.out⟩
        case measure => omega
end Go.Proofs.Ytkhaapdokhhbdaa
