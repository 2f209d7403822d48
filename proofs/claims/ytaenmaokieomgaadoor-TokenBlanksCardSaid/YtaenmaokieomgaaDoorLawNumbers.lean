/-
  The walk of the law TokenNumbers, and what Decimal of the document's answer returns: the decimal digits. Condition: as for Scan.
-/
import Derived.Test.YtaenmaokieomgaaDoorWalkW
import Derived.Laws.IdiomStrings
import Derived.Test.YtaenmaokieomgaaDoorMathD
import Derived.Test.YtaenmaokieomgaaDoorLawScans
namespace Go.Proofs.YtaenmaokieomgaaDoor
open Go.RowKit

theorem nDigits_bd : ∀ (d u : Nat), u < 10 ^ (d + 1) → Lib.nDigits u ≤ d + 1
  | 0, u, h => by rw [Lib.nDigits_small (by simpa using h)]; exact Nat.le_refl _
  | d + 1, u, h => by
    by_cases hu : u < 10
    · rw [Lib.nDigits_small hu]; omega
    · rw [Lib.nDigits_big hu]
      have := nDigits_bd d (u / 10) (by rw [Nat.pow_succ] at h; omega)
      omega

/-- The digits of k, none of 0. -/
def digs (k : Nat) : List UInt8 := if k = 0 then [] else Lib.decDigits k
theorem digs_step (k : Nat) (h : 0 < k) : digs k = digs (k / 10) ++ [UInt8.ofNat (48 + k % 10)] := by
  unfold digs
  rw [if_neg (by omega)]
  by_cases h10 : k < 10
  · rw [if_pos (by omega), Lib.decDigits_one h10, Nat.mod_eq_of_lt h10]; rfl
  · rw [if_neg (by omega), Lib.decDigits, dif_neg h10]
theorem digs_len (k : Nat) (h : k ≤ 9223372036854775807) : (digs k).length ≤ 20 := by
  unfold digs
  split
  · exact Nat.zero_le _
  · rw [Lib.decDigits_length]
    exact nDigits_bd 19 k (by have : (10 : Nat) ^ (19 + 1) = 100000000000000000000 := by decide
                              omega)

theorem strB_append (a b : List UInt8) : strB a ++ strB b = strB (a ++ b) := by
  apply ByteArray.ext
  simp [strB]

theorem conv1 (W : World) (d : Nat) (hd : d < 10) : (convert 31 9 (.slice (some ⟨W.heap.size, 0, none⟩) 1 1)).run Tryd.prog (W.alloc (.cells #[.int .u8 (48 + (d : Int))] 5)) = .ok (.string (strB [UInt8.ofNat (48 + d)])) (W.alloc (.cells #[.int .u8 (48 + (d : Int))] 5)) := by
  refine run_convert_bytes_back (P := Tryd.prog) _ 31 9 5 ⟨W.heap.size, 0, none⟩ 1 [UInt8.ofNat (48 + d)] Tryd.underlying31 Tryd.underlying5 Tryd.underlying9 ?_
  intro j hj
  obtain rfl : j = 0 := by simp at hj; omega
  simp [Addr.add, World.cell?_alloc_new]
  omega

set_option maxHeartbeats 1000000 in
set_option maxRecDepth 100000 in
theorem decimal_pos (n : Nat) (hn : n ≤ 9223372036854775807) (h0 : 0 < n) (w : World) : Calls Tryd.prog 25 #[.int .i64 n] w fun e w' => e = .returned (.string (strB (digs n))) ∧ Below w.heap.size w w' := by
  have hle : decide ((n : Int) ≤ 0) = false := decide_eq_false (by omega)
  have HL := Lib.hid (digs_len n hn)
  go_enter Tryd.func25, Tryd.ntmps25
  go_wp2
  clear hle
  go_loopg [0, 3] n (fun g v sv wx => ∃ (k : Nat) (l : List UInt8), v = .int .i64 k ∧ sv = .string (strB l) ∧ k = g ∧ k ≤ n ∧ digs k ++ l = digs n ∧ Below w.heap.size w wx)
  case atStart => exact ⟨n, [], rfl, rfl, rfl, Nat.le_refl _, List.append_nil _, Below.refl _ _⟩
  case round =>
    obtain ⟨k, l, rfl, rfl, hg, hkn, hd, hB⟩ := hrel
    subst hg
    have HB := Lib.hid hB
    have HD := Lib.hid hd
    clear hB hd
    by_cases hk : 0 < k
    · have hkm : k ≤ 9223372036854775807 := by omega
      have hst := digs_step k hk
      have hd2 := HD.out
      rw [hst, List.append_assoc] at hd2
      have HD2 := Lib.hid hd2
      have hlen : l.length ≤ 20 := by
        have h1 := congrArg List.length hd2
        rw [List.length_append, List.length_append] at h1
        have h2 := HL.out
        simp at h1
        omega
      have hsz : (strB l).size ≤ 20 := by show l.toArray.size ≤ 20; simpa using hlen
      have hcv := conv1 wr (k % 10) (by omega)
      have e10 : ((k % 10 : Nat) : Int) = (k : Int) % 10 := by omega
      rw [e10] at hcv
      obtain ⟨cb, hcb⟩ : ∃ cb, strB [UInt8.ofNat (48 + k % 10)] = cb := ⟨_, rfl⟩
      obtain ⟨lb, hlb⟩ : ∃ lb, strB l = lb := ⟨_, rfl⟩
      have hsz1 : cb.size ≤ 1 := by rw [← hcb]; exact Nat.le_refl _
      rw [hcb] at hcv
      rw [hlb] at hsz ⊢
      have HSUM : Hid (cb ++ lb = strB ([UInt8.ofNat (48 + k % 10)] ++ l)) := by
        rw [← hcb, ← hlb]; show _ = _
        exact strB_append _ _
      clear hst hd2 hlen e10 hcb hlb
      go_wp2
      go_roundg (k / 10)
      case rel => exact ⟨k / 10, [UInt8.ofNat (48 + k % 10)] ++ l, by go_num, by rw [← HSUM.out], rfl, by omega, HD2.out, HB.out.alloc HB.out.size _⟩
      case measure => omega
    · have hk0 : k = 0 := by omega
      subst hk0
      go_wp2
      go_ret
      have h := HD.out
      exact ⟨by rw [← h]; rfl, HB.out⟩

set_option maxHeartbeats 400000 in
theorem decimal_zero (n : Int) (h : n ≤ 0) (w : World) : Calls Tryd.prog 25 #[.int .i64 n] w fun e w' => e = .returned (.string (strB [48])) ∧ Below w.heap.size w w' := by
  go_enter Tryd.func25, Tryd.ntmps25
  go_wp2
  go_ret
  exact ⟨rfl, Below.refl _ _⟩

theorem decimal_any (n : Int) (hn : n ≤ 9223372036854775807) (w : World) : Calls Tryd.prog 25 #[.int .i64 n] w fun e w' => e = .returned (.string (strB (Lib.decDigits n.toNat))) ∧ Below w.heap.size w w' := by
  by_cases h : n ≤ 0
  · have e : n.toNat = 0 := by omega
    rw [e, Lib.decDigits_one (by omega)]
    exact decimal_zero n h w
  · have e : n = (n.toNat : Int) := by omega
    have hd := decimal_pos n.toNat (by omega) (by omega) w
    rw [← e] at hd
    unfold digs at hd
    rwa [if_neg (by omega)] at hd

theorem decDigits_short (m : Nat) (h : m ≤ 9223372036854775807) : (Lib.decDigits m).length ≤ 20 := by
  rw [Lib.decDigits_length]
  exact nDigits_bd 19 m (by have : (10 : Nat) ^ (19 + 1) = 100000000000000000000 := by decide
                            omega)

theorem scan_one (m : Nat) (hm : m ≤ 9223372036854775807) (w : World) (hL : LW w) : Calls Tryd.prog 12 #[.string (strB (Lib.decDigits m))] w fun e w' =>
    ∃ g cap, e = .returned (.tuple #[.slice (some ⟨g, 0, none⟩) 1 cap, .int .i64 0, .int .i64 0]) ∧ w'.cell? ⟨g, 0, none⟩ = some (.int .i64 2) ∧ w'.cell? ⟨g, 2, none⟩ = some (.int .i64 m) ∧ Below w.heap.size w w' := by
  have h := scan_any (strB (Lib.decDigits m)) w hL
  have e : (strB (Lib.decDigits m)).data.toList = Lib.decDigits m := by simp [strB]
  rw [e, scan_dec m (by omega) (by have := decDigits_short m hm; omega)] at h
  refine h.mono ?_
  rintro e w' ⟨v, rfl, ho, hb⟩
  have hs := tokSlice_of_own ho
  rcases ho.2 with ⟨_, h0⟩ | ⟨g, cap, cur, rfl, _⟩
  · cases h0
  · obtain ⟨A, c, hv, _, h1⟩ := hs
    injection hv with hA _ _
    obtain ⟨b, o, hA', h2⟩ := h1 (by intro h; cases h)
    rw [← hA] at hA'
    injection hA' with hA''
    injection hA'' with e1 e2 _
    subst e1 e2
    exact ⟨g, cap, rfl, (h2 0 _ rfl).1, (h2 0 _ rfl).2.2.1, hb⟩

theorem scan_fails (s : ByteArray) (w : World) (hL : LW w) (off : Nat) (er : Int) (h : ∃ ts, scanS s.data.toList = ⟨ts, off, er⟩) : Calls Tryd.prog 12 #[.string s] w fun e w' =>
    ∃ v, e = .returned (.tuple #[v, .int .i64 off, .int .i64 er]) ∧ Below w.heap.size w w' := by
  obtain ⟨ts, h⟩ := h
  exact (scan_at s w hL _ h).mono fun e w' ⟨v, he, _, hb⟩ => ⟨v, he, hb⟩

/-- The three texts that are put behind the number. -/
def suffix (r : Int) : ByteArray := if r = 0 then ⟨#[120]⟩ else if r = 1 then ⟨#[95]⟩ else ⟨#[65, 49]⟩

theorem bad_text (m : Nat) (hm : m ≤ 9223372036854775807) (b : ByteArray) (hb : b = ⟨#[120]⟩ ∨ b = ⟨#[95]⟩ ∨ b = ⟨#[65, 49]⟩) : ∃ ts, scanS ((({ data := #[32] } : ByteArray) ++ strB (Lib.decDigits m) ++ b).data.toList) = ⟨ts, 1, 1⟩ := by
  have e : ((({ data := #[32] } : ByteArray) ++ strB (Lib.decDigits m) ++ b).data.toList) = 32 :: (Lib.decDigits m ++ b.data.toList) := by simp [strB]
  have hl := decDigits_short m hm
  refine ⟨[], ?_⟩
  rw [e]
  rcases hb with rfl | rfl | rfl
  · exact scan_bad m _ rfl rfl (by show _ + 1 ≤ _; omega)
  · exact scan_bad m _ rfl rfl (by show _ + 1 ≤ _; omega)
  · exact scan_bad m _ rfl rfl (by show _ + 2 ≤ _; omega)
theorem zero_text (m : Nat) (hm : m ≤ 9223372036854775807) : ∃ ts, scanS ((({ data := #[48] } : ByteArray) ++ strB (Lib.decDigits m)).data.toList) = ⟨ts, 0, 1⟩ := by
  have e : ((({ data := #[48] } : ByteArray) ++ strB (Lib.decDigits m)).data.toList) = 48 :: Lib.decDigits m := by simp [strB]
  have hl := decDigits_short m hm
  exact ⟨[], by rw [e]; exact scan_zero m (by omega)⟩
theorem eta_err {R : ScanR} {e : Int} (h : R.err = e) : ∃ off, ∃ ts, R = ⟨ts, off, e⟩ := by subst h; exact ⟨R.off, R.toks, rfl⟩
theorem great_text : ∃ off, ∃ ts, scanS (({ data := #[57, 50, 50, 51, 51, 55, 50, 48, 51, 54, 56, 53, 52, 55, 55, 53, 56, 48, 56] } : ByteArray).data.toList) = ⟨ts, off, 3⟩ := by
  exact eta_err scan_great

set_option maxHeartbeats 2000000 in
set_option maxRecDepth 100000 in
theorem tokenNumbers_any (n m : Int) (w : World) (hn : n ≤ 9223372036854775807) (hm0 : 0 ≤ m) (hm1 : m ≤ 255) (hL : LW w) : Calls Tryd.prog 10 #[.int .i64 n, .int .u8 m] w fun e w' => e = .returned (.bool true) ∧ Below w.heap.size w w' := by
  have HL := Lib.hid hL
  clear hL
  obtain ⟨k, hk⟩ : ∃ k : Nat, n.toNat = k := ⟨_, rfl⟩
  have hkm : k ≤ 9223372036854775807 := by omega
  have HD := Lib.hid (fun W => decimal_any n hn W)
  rw [hk] at HD
  obtain ⟨off, hoff⟩ := great_text
  have HG := Lib.hid hoff
  clear hoff
  have HONE := Lib.hid (fun W h => scan_one k hkm W h)
  have HBAD := Lib.hid (fun b hb => bad_text k hkm b hb)
  have HZERO := Lib.hid (zero_text k hkm)
  have hlen : (strB (Lib.decDigits k)).size ≤ 20 := by
    have := decDigits_short k hkm
    show (Lib.decDigits k).toArray.size ≤ 20
    simpa using this
  generalize strB (Lib.decDigits k) = ds at HD HONE HBAD HZERO hlen
  have hmax : max n 0 = (k : Int) := by omega
  clear hk
  go_enter Tryd.func10, Tryd.ntmps10
  go_wp2_with (go_at_call 11; refine (awake_any _ HL.out).mono ?_; rintro e w1 ⟨rfl, hb⟩; have HB1 := Lib.hid hb; have HL1 := Lib.hid (HL.out.below hb HL.out.big); clear hb)
  go_wp2_with (go_at_call 25; refine (HD.out _).mono ?_; rintro e w2 ⟨rfl, hb⟩; have HB2 := Lib.hid hb; have HL2 := Lib.hid (HL1.out.below hb HL1.out.big); clear hb)
  refine (HONE.out _ HL2.out).mono ?_
  rintro e w3 ⟨g, cap, rfl, c0, c2, hb⟩
  have HB3 := Lib.hid hb
  have HL3 := Lib.hid (HL2.out.below hb HL2.out.big)
  clear hb
  go_wp2_with fail
  refine (scan_fails _ _ HL3.out off 3 HG.out).mono ?_
  rintro e w4 ⟨v4, rfl, hb⟩
  have HB4 := Lib.hid hb
  have HL4 := Lib.hid (HL3.out.below hb HL3.out.big)
  clear hb c0 c2 hmax
  have HM : Hid (m % 3 = 0 ∨ m % 3 = 1 ∨ m % 3 = 2) := (show m % 3 = 0 ∨ m % 3 = 1 ∨ m % 3 = 2 by omega)
  rcases HM.out with hm3 | hm3 | hm3
  · go_wp2_with fail
    have HLa := Lib.hid (HL4.out.below ((Below.refl w4.heap.size _).alloc (Nat.le_refl _) (.cells #[.string ⟨#[120]⟩, .string ⟨#[95]⟩, .string ⟨#[65, 49]⟩] 9)) HL4.out.big)
    refine (scan_fails _ _ HLa.out 1 1 (HBAD.out _ (.inl rfl))).mono ?_
    rintro e w5 ⟨v5, rfl, hb⟩
    have HB5 := Lib.hid hb
    have HL5 := Lib.hid (HLa.out.below hb HLa.out.big)
    clear hb
    go_wp2_with fail
    refine (scan_fails _ _ HL5.out 0 1 HZERO.out).mono ?_
    rintro e w6 ⟨v6, rfl, hb⟩
    have HB6 := Lib.hid hb
    clear hb
    go_wp2
    go_ret
    have h1 := HB1.out
    have h2 := h1.trans (HB2.out.mono h1.size)
    have h3 := h2.trans (HB3.out.mono h2.size)
    have h4 := h3.trans (HB4.out.mono h3.size)
    have h5 := (h4.alloc h4.size _).trans (HB5.out.mono (h4.alloc h4.size _).size)
    exact ⟨rfl, h5.trans (HB6.out.mono h5.size)⟩
  · go_wp2_with fail
    have HLa := Lib.hid (HL4.out.below ((Below.refl w4.heap.size _).alloc (Nat.le_refl _) (.cells #[.string ⟨#[120]⟩, .string ⟨#[95]⟩, .string ⟨#[65, 49]⟩] 9)) HL4.out.big)
    refine (scan_fails _ _ HLa.out 1 1 (HBAD.out _ (.inr (.inl rfl)))).mono ?_
    rintro e w5 ⟨v5, rfl, hb⟩
    have HB5 := Lib.hid hb
    have HL5 := Lib.hid (HLa.out.below hb HLa.out.big)
    clear hb
    go_wp2_with fail
    refine (scan_fails _ _ HL5.out 0 1 HZERO.out).mono ?_
    rintro e w6 ⟨v6, rfl, hb⟩
    have HB6 := Lib.hid hb
    clear hb
    go_wp2
    go_ret
    have h1 := HB1.out
    have h2 := h1.trans (HB2.out.mono h1.size)
    have h3 := h2.trans (HB3.out.mono h2.size)
    have h4 := h3.trans (HB4.out.mono h3.size)
    have h5 := (h4.alloc h4.size _).trans (HB5.out.mono (h4.alloc h4.size _).size)
    exact ⟨rfl, h5.trans (HB6.out.mono h5.size)⟩
  · go_wp2_with fail
    have HLa := Lib.hid (HL4.out.below ((Below.refl w4.heap.size _).alloc (Nat.le_refl _) (.cells #[.string ⟨#[120]⟩, .string ⟨#[95]⟩, .string ⟨#[65, 49]⟩] 9)) HL4.out.big)
    refine (scan_fails _ _ HLa.out 1 1 (HBAD.out _ (.inr (.inr rfl)))).mono ?_
    rintro e w5 ⟨v5, rfl, hb⟩
    have HB5 := Lib.hid hb
    have HL5 := Lib.hid (HLa.out.below hb HLa.out.big)
    clear hb
    go_wp2_with fail
    refine (scan_fails _ _ HL5.out 0 1 HZERO.out).mono ?_
    rintro e w6 ⟨v6, rfl, hb⟩
    have HB6 := Lib.hid hb
    clear hb
    go_wp2
    go_ret
    have h1 := HB1.out
    have h2 := h1.trans (HB2.out.mono h1.size)
    have h3 := h2.trans (HB3.out.mono h2.size)
    have h4 := h3.trans (HB4.out.mono h3.size)
    have h5 := (h4.alloc h4.size _).trans (HB5.out.mono (h4.alloc h4.size _).size)
    exact ⟨rfl, h5.trans (HB6.out.mono h5.size)⟩
end Go.Proofs.YtaenmaokieomgaaDoor
