/-
  What isHandler and bodies of package syntax's parser do. Conditions: the parser lies at block R.
-/
import Derived.Test.YtdlnpfocmgclmaaDoorWalkDe
import Derived.Maps.Views
namespace Go.Proofs.YtdlnpfocmgclmaaDoor
open Go.RowKit
open Go.Maps (Keyed string_keyed)

/-! ### Handlers -/
set_option maxHeartbeats 1000000 in
set_option maxRecDepth 100000 in
theorem handlers_any (A0 A1 A2 A3 A4 : Option Addr) (l0 l1 l2 l3 l4 c0 c1 c2 c3 c4 : Nat) (w : World) :
    Calls Tryd.prog 12 #[.agg #[.slice A0 l0 c0, .slice A1 l1 c1, .slice A2 l2 c2, .slice A3 l3 c3, .slice A4 l4 c4]] w fun e w' =>
      e = .returned (.agg #[.string ⟨#[115, 116, 97, 114, 116]⟩, .slice A1 l1 c1, .string ⟨#[109, 101, 115, 115, 97, 103, 101]⟩, .slice A2 l2 c2, .string ⟨#[116, 105, 99, 107]⟩, .slice A3 l3 c3, .string ⟨#[105, 110, 112, 117, 116]⟩, .slice A4 l4 c4]) ∧ Below w.heap.size w w' := by
  go_enter Tryd.func12, Tryd.ntmps12
  go_wp2
  refine bodyPost_ret (v := .agg #[.string ⟨#[115, 116, 97, 114, 116]⟩, .slice A1 l1 c1, .string ⟨#[109, 101, 115, 115, 97, 103, 101]⟩, .slice A2 l2 c2, .string ⟨#[116, 105, 99, 107]⟩, .slice A3 l3 c3, .string ⟨#[105, 110, 112, 117, 116]⟩, .slice A4 l4 c4]) ?_ rfl ?_
  · simp [results, Tryd.results12, go_sem]
  · exact ⟨rfl, ((Below.refl _ _).alloc (Nat.le_refl _) _).alloc (by simp) _⟩

def hWord : Nat → List UInt8
  | 0 => [115, 116, 97, 114, 116]
  | 1 => [109, 101, 115, 115, 97, 103, 101]
  | 2 => [116, 105, 99, 107]
  | _ => [105, 110, 112, 117, 116]
def isH (s : List UInt8) : Bool := (bd0.get s).isSome
theorem isH_word : ∀ k, k < 4 → isH (hWord k) = true := by decide
theorem isH_no (s : List UInt8) (h : ∀ k, k < 4 → hWord k ≠ s) : isH s = false := by
  unfold isH Bd.get
  rw [if_neg (fun e => h 0 (by omega) e.symm), if_neg (fun e => h 1 (by omega) e.symm), if_neg (fun e => h 2 (by omega) e.symm), if_neg (fun e => h 3 (by omega) e.symm)]
  rfl

theorem hand_index : ∀ (k : Nat) (_ : k < 4) (w : World), (Instr.index 49 (.agg #[.string ⟨#[115, 116, 97, 114, 116]⟩, .slice none 0 0, .string ⟨#[109, 101, 115, 115, 97, 103, 101]⟩, .slice none 0 0, .string ⟨#[116, 105, 99, 107]⟩, .slice none 0 0, .string ⟨#[105, 110, 112, 117, 116]⟩, .slice none 0 0]) (.int .i64 k)).run Tryd.prog w = .ok (.agg #[.string (strB (hWord k)), .slice none 0 0]) w
  | 0, _, _ => by kernel_rfl
  | 1, _, _ => by kernel_rfl
  | 2, _, _ => by kernel_rfl
  | 3, _, _ => by kernel_rfl
  | k + 4, h, _ => absurd h (by omega)

set_option maxHeartbeats 1000000 in
set_option maxRecDepth 100000 in
theorem isHandler_any (s : List UInt8) (w : World) : Calls Tryd.prog 37 #[.string (strB s)] w fun e w' => e = .returned (.bool (isH s)) ∧ Below w.heap.size w w' := by
  go_enter Tryd.func37, Tryd.ntmps37
  go_wp2_with fail
  refine (handlers_any _ _ _ _ _ _ _ _ _ _ _ _ _ _ _ _).mono ?_
  rintro e w1 ⟨rfl, hb⟩
  have HB1 := Lib.hid hb
  clear hb
  go_wp2_with fail
  go_loopg [7] 4 (fun g i wr => ∃ k : Nat, k + g = 4 ∧ i = .int .i64 k ∧ Below w.heap.size w wr ∧ ∀ j, j < k → hWord j ≠ s)
  case atStart => exact ⟨0, rfl, rfl, HB1.out, fun j hj => by omega⟩
  case round =>
    obtain ⟨k, hkg, rfl, hb, hs⟩ := hrel
    have HB := Lib.hid hb
    have HS := Lib.hid hs
    clear hb hs
    cases gk with
    | zero =>
      have hge : 4 ≤ k := by omega
      have H0 := Lib.hid (isH_no s fun j hj => HS.out j (by omega))
      clear hkg
      go_wp2
      go_ret
      exact ⟨by rw [H0.out]; rfl, HB.out⟩
    | succ g =>
      have hlt : k < 4 := by omega
      have HG := Lib.hid hkg
      clear hkg
      have hi := hand_index k hlt
      by_cases h1 : hWord k = s
      · have ht := str_eq (l := hWord k) (s := strB s) (by rw [str_data]; exact h1)
        have H1 : Hid (isH s = true) := by rw [← h1]; exact isH_word k hlt
        clear h1
        go_wp2
        go_ret
        exact ⟨by rw [H1.out]; rfl, HB.out.alloc HB.out.size _⟩
      · have ht := str_ne (l := hWord k) (s := strB s) (by rw [str_data]; exact h1)
        have H1 := Lib.hid h1
        clear h1
        go_wp2
        go_roundg g
        case rel => exact ⟨k + 1, by have := HG.out; omega, by go_num, HB.out.alloc HB.out.size _, fun j hj => by
          by_cases e : j = k
          · subst e; exact H1.out
          · exact HS.out j (by omega)⟩
        case measure => omega

/-! ### The map of bodies -/
/-- An element reads as itself. -/
def Rv (v : Value) : Option (DataW Value × List MemPlace) := some (.held v, [])
theorem keyStr : Keyed Tryd.prog 9 := string_keyed Tryd.underlying9
theorem zeroSts (w : World) : (zeroValue 26).run Tryd.prog w = .ok (.slice none 0 0) w := by kernel_rfl
theorem key_of (s : List UInt8) (hs : s.length ≤ 4096) : keyOf Tryd.prog 9 (.string (strB s)) = some (.string s) := by
  have := Go.WideMaps.keyOf_string_mk Tryd.underlying9 (s := strB s) (by rw [str_size]; unfold maxLen; omega)
  rw [str_data] at this; exact this

abbrev mapT : TypeId := 66

theorem look_at {w : World} {b n : Nat} {D : DataW Value} (h : w.ownsMap Tryd.prog 9 Rv b n D) (s : List UInt8) (hs : s.length ≤ 4096) (c : Bool) :
    ((∀ zd, D.atKey (.string s) zd = zd) ∧ (Instr.lookup mapT (.map (some b)) (.string (strB s)) c).run Tryd.prog w = .ok (if c then .tuple #[.slice none 0 0, .bool false] else .slice none 0 0) w) ∨
    ∃ v, (∀ zd, D.atKey (.string s) zd = .held v) ∧ (Instr.lookup mapT (.map (some b)) (.string (strB s)) c).run Tryd.prog w = .ok (if c then .tuple #[v, .bool true] else v) w := by
  obtain ⟨es, clock, hb, F, _, rfl⟩ := h
  rcases Go.Maps.fit_look c keyStr Tryd.underlying66 (zeroSts w) hb F (key_of s hs) with ⟨hrun, _, hat⟩ | ⟨e0, y, _, _, hrun, hRv, hat, _⟩
  · exact .inl ⟨hat, hrun⟩
  · simp only [Rv, Option.some.injEq] at hRv
    subst hRv
    exact .inr ⟨e0.val, hat, hrun⟩
theorem look_no {w : World} {b n : Nat} {D : DataW Value} (h : w.ownsMap Tryd.prog 9 Rv b n D) (s : List UInt8) (hs : s.length ≤ 4096) (c : Bool) (hv : ∀ zd, D.atKey (.string s) zd = zd) :
    (Instr.lookup mapT (.map (some b)) (.string (strB s)) c).run Tryd.prog w = .ok (if c then .tuple #[.slice none 0 0, .bool false] else .slice none 0 0) w := by
  rcases look_at h s hs c with ⟨_, hr⟩ | ⟨v, h1, _⟩
  · exact hr
  · have := (h1 .nil).symm.trans (hv .nil); cases this
theorem look_yes {w : World} {b n : Nat} {D : DataW Value} (h : w.ownsMap Tryd.prog 9 Rv b n D) (s : List UInt8) (hs : s.length ≤ 4096) (c : Bool) (v : Value) (hv : ∀ zd, D.atKey (.string s) zd = .held v) :
    (Instr.lookup mapT (.map (some b)) (.string (strB s)) c).run Tryd.prog w = .ok (if c then .tuple #[v, .bool true] else v) w := by
  rcases look_at h s hs c with ⟨h1, _⟩ | ⟨v', h1, hr⟩
  · have := (h1 .nil).symm.trans (hv .nil); cases this
  · have := (h1 .nil).symm.trans (hv .nil)
    have e : v' = v := DataW.held.inj this
    subst e; exact hr

/-- What the map holds: the bodies. -/
def BdIs (m : Nat) (w : World) (D : DataW Value) (bd : Bd) : Prop :=
  ∀ s, (∀ l, bd.get s = some (some l) → ∃ v, (∀ zd, D.atKey (.string s) zd = .held v) ∧ VSts m w l v) ∧ ((∀ l, bd.get s ≠ some (some l)) → ∀ zd, D.atKey (.string s) zd = zd)

theorem BdIs.still {m : Nat} {w w' : World} {D : DataW Value} {bd : Bd} (h : BdIs m w D bd) (hs : Still (From m) (From m) w w') : BdIs m w' D bd := fun s =>
  ⟨fun l hl => by obtain ⟨v, h1, h2⟩ := (h s).1 l hl; exact ⟨v, h1, StSlice.still h2 hs⟩, (h s).2⟩
theorem BdIs.zero (m : Nat) (w : World) : BdIs m w (.map []) bd0 := fun s => by
  refine ⟨fun l hl => ?_, fun _ zd => rfl⟩
  unfold Bd.get bd0 at hl
  (repeat' split at hl) <;> simp at hl

theorem get_set (bd : Bd) (s s' : List UInt8) (l : List St) (hs : (bd.get s).isSome = true) : (bd.set s l).get s' = if s' = s then some (some l) else bd.get s' := by
  unfold Bd.get at hs ⊢
  unfold Bd.set
  by_cases e : s' = s
  · subst e
    rw [if_pos rfl]
    (repeat' split at hs) <;> (repeat' split) <;> simp_all
  · rw [if_neg e]
    (repeat' split) <;> simp_all

theorem BdIs.put {m n b : Nat} {w : World} {D : DataW Value} {bd : Bd} {s : List UInt8} {l : List St} {v : Value} (h : BdIs m w D bd) (ho : w.ownsMap Tryd.prog 9 Rv b n D) (hs : (bd.get s).isSome = true) (hv : VSts m w l v) : BdIs m w (D.put (.string s) (.held v)) (bd.set s l) := fun s' => by
  have hm : Go.Maps.IsMap D := by obtain ⟨es, clock, _, _, _, rfl⟩ := ho; exact ⟨_, rfl⟩
  rw [get_set bd s s' l hs]
  by_cases e : s' = s
  · subst e
    rw [if_pos rfl]
    exact ⟨fun l' hl => by
      simp only [Option.some.injEq] at hl
      subst hl
      exact ⟨v, fun zd => Go.Maps.atKey_put_same hm (by trivial) _ _, hv⟩, fun hno => absurd rfl (hno l)⟩
  · rw [if_neg e]
    have hne : (Lit.string s') ≠ .string s := fun h => by injection h with h; exact e h
    refine ⟨fun l' hl => ?_, fun hno zd => ?_⟩
    · obtain ⟨v', h1, h2⟩ := (h s').1 l' hl
      exact ⟨v', fun zd => by rw [Go.Maps.atKey_put_other hne]; exact h1 zd, h2⟩
    · rw [Go.Maps.atKey_put_other hne]; exact (h s').2 hno zd

theorem map_keep {R b n : Nat} {w w' : World} {D : DataW Value} (h : w.ownsMap Tryd.prog 9 Rv b n D) (hk : Keep R w w') (hR : R < b) : w'.ownsMap Tryd.prog 9 Rv b n D := by
  obtain ⟨es, clock, hb, F, hs, hD⟩ := h
  exact ⟨es, clock, hk.blk hb (by omega), F, hs, hD⟩

/-- What bodies returns. -/
def VBd (m : Nat) (w : World) (bd : Bd) (v : Value) : Prop := ∃ b n D, v = .map (some b) ∧ m ≤ b ∧ w.ownsMap Tryd.prog 9 Rv b n D ∧ BdIs (m + 1) w D bd

/-- The loop's head. -/
def BodHead (R en b : Nat) (toks : List Tok) (r : Res Bd) (w0 : World) (g : Nat) (wr : World) : Prop :=
  ∃ bd n D tc, pBodies g bd tc = r ∧ PSt R toks en wr tc ∧ Keep R w0 wr ∧ wr.ownsMap Tryd.prog 9 Rv b n D ∧ BdIs (b + 1) wr D bd ∧ n + tc.length ≤ 100000

set_option maxHeartbeats 4000000 in
set_option maxRecDepth 100000 in
theorem bodies_any (f : Nat) (hB : ∀ g, g ≤ f → BlkC g) (R en : Nat) (toks ts : List Tok) (w : World) (r : Res Bd) (hr : pBodies f bd0 ts = r) (hne : r ≠ .out) (h : PSt R toks en w ts) :
    Calls Tryd.prog 26 #[.pointer (some ⟨R, 0, none⟩)] w (PP R toks en (VBd w.heap.size) r w) := by
  have hR := h.lt
  have HNE := Lib.hid hne
  have H := Lib.hid h
  have HR := Lib.hid hr
  have HB := Lib.hid hB
  clear hne h hr hB
  have hmm := @run_makeMap Tryd.prog
  go_enter Tryd.func26, Tryd.ntmps26
  go_wp2_with fail
  clear hmm
  go_loopg [4] f (fun g _ wr => g ≤ f ∧ BodHead R en w.heap.size toks r w g wr)
  case atStart => exact ⟨Nat.le_refl _, bd0, 0, .map [], ts, HR.out, H.out.more _, (Keep.refl _ _).alloc _, World.ownsMap_made _ _ _ _, BdIs.zero _ _, by simpa using H.out.len2⟩
  case round =>
    obtain ⟨hgf, bd, n, D, tc, hl, hp, hk, ho, hbd, hlen⟩ := hrel
    have HL := Lib.hid hl
    have HP := Lib.hid hp
    have HK := Lib.hid hk
    have HO := Lib.hid ho
    have HD := Lib.hid hbd
    have HLN := Lib.hid hlen
    clear hl hp hk ho hbd hlen
    cases gk with
    | zero => exact absurd HL.out.symm HNE.out
    | succ g =>
      by_cases h0 : txt tc = [111, 110]
      · have HT0 : Hid (txt tc = (⟨#[111, 110]⟩ : ByteArray).data.toList) := h0
        have HN : Hid (tc ≠ []) := fun e => by rw [e] at h0; simp [txt] at h0
        have HL' : Hid ((match bd.get (txt tc.tail) with | some none => (pBlock g tc.tail.tail).bind fun l t => pBodies g (bd.set (txt tc.tail) l) t | _ => .fail tc.tail) = r) := by
          have := HL.out
          rw [pBodies, if_pos h0] at this; exact this
        have HLT : Hid (tc.tail.length < tc.length) := tail_lt h0 (by decide)
        clear h0 HL
        go_wp2_with fail
        refine (accept_yes _ _ _ _ _ _ HP.out HT0.out HN.out).mono ?_
        rintro e w1 ⟨rfl, hp, hk⟩
        have HP1 := Lib.hid hp
        have HK1 := Lib.hid (HK.out.trans hk)
        have HO1 := Lib.hid (map_keep HO.out hk hR)
        have HD1 := Lib.hid (HD.out.still (Still.keep hk (by omega)))
        clear hp hk
        go_wp2_with fail
        refine (next_any _ _ _ _ _ HP1.out).mono ?_
        rintro e w2 ⟨rfl, hb⟩
        have HP2 := Lib.hid (HP1.out.below hb)
        have HK2 := Lib.hid (HK1.out.trans (Keep.of_below hb))
        have HO2 := Lib.hid (map_keep HO1.out (Keep.of_below (R := R) hb) hR)
        have HD2 := Lib.hid (HD1.out.still (Still.keep (Keep.of_below (R := R) hb) (by omega)))
        have HTX := Lib.hid HP2.out.txt
        clear hb
        have hf := fld1
        obtain ⟨o, hget⟩ : ∃ o, bd.get (txt tc.tail) = o := ⟨_, rfl⟩
        have HG := Lib.hid hget
        rw [hget] at HL'
        cases o with
        | none =>
          have HQ : Hid (.fail tc.tail = r) := HL'.out
          have hlk := look_no HO2.out (txt tc.tail) HTX.out true ((HD2.out (txt tc.tail)).2 (fun l hl => by rw [hget] at hl; cases hl))
          simp only [if_true] at hlk
          have HH : Hid (isH (txt tc.tail) = false) := by
            have : (bd.get (txt tc.tail)).isSome = isH (txt tc.tail) := by unfold isH Bd.get; (repeat' split) <;> rfl
            rw [hget] at this; exact this.symm
          clear hget HL'
          go_wp2_with fail
          refine (isHandler_any _ _).mono ?_
          rw [HH.out]
          rintro e w3 ⟨rfl, hb⟩
          have HP3 := Lib.hid (HP2.out.below hb)
          have HK3 := Lib.hid (HK2.out.trans (Keep.of_below hb))
          clear hb hlk
          go_wp2_with fail
          refine (fail_any _ _ _ _ _ HP3.out).mono ?_
          rintro e w4 ⟨rfl, hb⟩
          have HK4 := Lib.hid (HK3.out.trans (Keep.of_below hb))
          clear hb
          go_wp2_with fail
          rw [← HQ.out]
          exact ⟨rfl, rfl, HK4.out⟩
        | some o' =>
          cases o' with
          | some l =>
            have HQ : Hid (.fail tc.tail = r) := HL'.out
            obtain ⟨v, hv1, hv2⟩ := (HD2.out (txt tc.tail)).1 l hget
            obtain ⟨A, c, rfl, _, _⟩ := hv2
            have hlk := look_yes HO2.out (txt tc.tail) HTX.out true _ hv1
            simp only [if_true] at hlk
            clear hget HL' hv1
            go_wp2_with fail
            refine (fail_any _ _ _ _ _ HP2.out).mono ?_
            rintro e w4 ⟨rfl, hb⟩
            have HK4 := Lib.hid (HK2.out.trans (Keep.of_below hb))
            clear hb
            go_wp2_with fail
            rw [← HQ.out]
            exact ⟨rfl, rfl, HK4.out⟩
          | none =>
            have hlk := look_no HO2.out (txt tc.tail) HTX.out true ((HD2.out (txt tc.tail)).2 (fun l hl => by rw [hget] at hl; cases hl))
            simp only [if_true] at hlk
            have HH : Hid (isH (txt tc.tail) = true) := by
              have : (bd.get (txt tc.tail)).isSome = isH (txt tc.tail) := by unfold isH Bd.get; (repeat' split) <;> rfl
              rw [hget] at this; exact this.symm
            have HN1 : Hid (tc.tail ≠ []) := fun e => by rw [e] at hget; simp [txt, Bd.get] at hget
            obtain ⟨r1, hr1⟩ : ∃ r1, pBlock g tc.tail.tail = r1 := ⟨_, rfl⟩
            have HQ : Hid (r1.bind (fun l t => pBodies g (bd.set (txt tc.tail) l) t) = r) := by rw [← hr1]; exact HL'.out
            have hne1 : r1 ≠ .out := fun e => by have := HQ.out; rw [e] at this; exact HNE.out this.symm
            have HC : Hid (∀ w', PSt R toks en w' tc.tail.tail → Calls Tryd.prog 38 #[.pointer (some ⟨R, 0, none⟩)] w' (PP R toks en (VSts w'.heap.size) r1 w')) := fun w' h' => HB.out g (by omega) R en toks tc.tail.tail w' r1 hr1 hne1 h'
            have HSH : Hid (∀ l t, r1 = .ok l t → t.length < tc.length) := fun l t e => by
              have h1 := (pS_sh g).1 tc.tail.tail
              rw [hr1, e] at h1
              have h2 : tc.tail.tail.length ≤ tc.tail.length := by simp
              have h3 : t.length < tc.tail.tail.length := h1
              have := HLT.out
              omega
            have HS1 : Hid ((bd.get (txt tc.tail)).isSome = true) := by rw [hget]; rfl
            clear hget HL' hr1
            go_wp2_with fail
            refine (isHandler_any _ _).mono ?_
            rw [HH.out]
            rintro e w3 ⟨rfl, hb⟩
            have HP3 := Lib.hid (HP2.out.below hb)
            have HK3 := Lib.hid (HK2.out.trans (Keep.of_below hb))
            have HO3 := Lib.hid (map_keep HO2.out (Keep.of_below (R := R) hb) hR)
            have HD3 := Lib.hid (HD2.out.still (Still.keep (Keep.of_below (R := R) hb) (by omega)))
            clear hb hlk
            obtain ⟨k, k1, k2, c1⟩ := HP3.out.at'
            have hlen3 := HP3.out.len
            have hz3 := HP3.out.fz
            have HC1 := Lib.hid c1
            have hk3 : (k : Int) ≤ 100000 := by omega
            clear k1 k2 hlen3
            go_wp2_with fail
            have HP4 := Lib.hid (HP3.out.take HN1.out HC1.out)
            have hks := (Keep.refl R w3).setR (p := ⟨R, 1, none⟩) rfl (.int .i64 ((k : Int) + 1))
            have HK4 := Lib.hid (HK3.out.trans hks)
            have HO4 := Lib.hid (map_keep HO3.out hks hR)
            have HD4 := Lib.hid (HD3.out.still (Still.keep hks (by omega)))
            clear hks c1 hz3 hk3
            refine (HC.out _ HP4.out).mono ?_
            cases r1 with
            | out => exact absurd rfl hne1
            | fail t =>
              rintro e w5 ⟨rfl, hk⟩
              have HQ' : Hid (.fail t = r) := HQ.out
              clear HQ hne1
              go_wp2_with fail
              rw [← HQ'.out]
              exact ⟨rfl, rfl, HK4.out.trans hk⟩
            | ok l t =>
              rintro e w5 ⟨v, rfl, hv, hp, hk⟩
              have HV5 := Lib.hid hv
              have HP5 := Lib.hid hp
              have HK5 := Lib.hid (HK4.out.trans hk)
              have HO5 := Lib.hid (map_keep HO4.out hk hR)
              have HD5 := Lib.hid (HD4.out.still (Still.keep hk (by omega)))
              have HZ5 := Lib.hid hk.size
              have HQ' : Hid (pBodies g (bd.set (txt tc.tail) l) t = r) := HQ.out
              have hln := HLN.out
              have hl2 := HSH.out l t rfl
              clear hv hp hk HQ hne1
              have HKEY := Lib.hid (key_of (txt tc.tail) HTX.out)
              go_wp2_with (at_mapUpdate; refine wpList_mapUpdate_own _ rfl _ _ _ mapT rfl 9 26 keyStr Tryd.underlying66 Rv w.heap.size n D rfl HO5.out (by unfold maxLen; omega) _ _ (.string (txt tc.tail)) rfl rfl HKEY.out (.held v) [] rfl ?_; intro w6 hown6 hg6)
              have hsz : w.heap.size < w3.heap.size := HO3.out.lt
              have hz5 := HZ5.out
              rw [set_size] at hz5
              have hblk : ∀ j, j < w5.heap.size → j ≠ w.heap.size → w6.heap[j]? = w5.heap[j]? := fun j h1 h2 => hg6.block j h1 (fun e => h2 (by injection e))
              have HP6 := Lib.hid (HP5.out.up fun j hj => hblk j (by omega) (by omega))
              have HK6 : Hid (Keep R w w6) := ⟨hg6.os.trans HK5.out.os, hg6.tape.trans HK5.out.tape, hg6.output.trans HK5.out.output, Nat.le_trans HK5.out.size hg6.size, fun j h1 h2 => (hblk j (by omega) (by omega)).trans (HK5.out.block j h1 h2)⟩
              have hv5 : VSts (w.heap.size + 1) w5 l v := StSlice.still HV5.out (fun j (h1 : _ ≤ j) _ => ⟨(by rw [set_size] at h1; show _ ≤ j; omega), rfl⟩)
              have HD6 := Lib.hid ((HD5.out.put HO5.out HS1.out hv5).still (w' := w6) (fun j (h1 : w.heap.size + 1 ≤ j) h2 => ⟨h1, hblk j h2 (by omega)⟩))
              have HO6 := Lib.hid hown6
              clear hown6 hg6 hblk hv5
              go_roundg g
              case rel => exact ⟨by omega, _, n + 1, _, t, HQ'.out, HP6.out, HK6.out, HO6.out, HD6.out, by omega⟩
              case measure => omega
      · have HT0 : Hid (txt tc ≠ (⟨#[111, 110]⟩ : ByteArray).data.toList) := h0
        have HQ : Hid (.ok bd tc = r) := by
          have := HL.out
          rw [pBodies, if_neg h0] at this; exact this
        clear h0 HL
        go_wp2_with fail
        refine (accept_no _ _ _ _ _ _ HP.out HT0.out).mono ?_
        rintro e w1 ⟨rfl, hb⟩
        have HP1 := Lib.hid (HP.out.below hb)
        have HK1 := Lib.hid (HK.out.trans (Keep.of_below hb))
        have HO1 := Lib.hid (map_keep HO.out (Keep.of_below (R := R) hb) hR)
        have HD1 := Lib.hid (HD.out.still (Still.keep (Keep.of_below (R := R) hb) (by omega)))
        clear hb
        go_wp2_with fail
        go_ret
        rw [← HQ.out]
        exact ⟨_, rfl, ⟨_, n, D, rfl, Nat.le_refl _, HO1.out, HD1.out⟩, HP1.out, HK1.out⟩
end Go.Proofs.YtdlnpfocmgclmaaDoor
