/-
  What the small functions of a parser of package syntax do: next, fail, accept, expect, name, number. Conditions: the parser lies at block R; its tokens number at most 100000.
-/
import Derived.Test.YtdlnpfocmgclmaaDoorWalkQ
import Derived.Test.YtdlnpfocmgclmaaDoorWalkV
import Derived.WalkLawsBesides
import Derived.RegionTactic
import Derived.StillTailTactics
namespace Go.Proofs.YtdlnpfocmgclmaaDoor
open Go.RowKit

set_option maxHeartbeats 400000 in
set_option maxRecDepth 100000 in
theorem next_cons (R en : Nat) (toks r : List Tok) (t : Tok) (w : World) (h : PSt R toks en w (t :: r)) :
    Calls Tryd.prog 36 #[.pointer (some ⟨R, 0, none⟩)] w fun e w' => e = .returned (tokV t.kind (strB t.text) t.value t.off) ∧ Below w.heap.size w w' := by
  have hR := h.lt
  obtain ⟨⟨k, h1, h2, c1⟩, ⟨A, c, c0, h5⟩, _, _, hlen, _, _, _⟩ := h
  have hlt : k < toks.length := by simp at h1; omega
  obtain ⟨n, hn⟩ : ∃ n, toks.length = n := ⟨_, rfl⟩
  obtain ⟨b, o, rfl, _, hi⟩ := h5 (fun h => by rw [h] at hlt; simp at hlt)
  have ht : toks[k]? = some t := by
    have := congrArg List.head? h2
    rwa [List.head?_drop] at this
  obtain ⟨d0, d1, d2, d3⟩ := hi k t ht
  have hb : b < w.heap.size := World.block_lt_of_cell? w _ d0
  obtain ⟨kd, tx, vl, of⟩ := t
  rw [hn] at c0 hlen hlt
  clear h1 h2 h5 hi ht hn
  simp only at d0 d1 d2 d3 ⊢
  have hlt' : (k : Int) < (n : Int) := by omega
  go_enter Tryd.func36, Tryd.ntmps36
  go_wp2_with fail
  go_quiet (fail)
  go_wp2_with fail
  go_region
  go_wp2_with fail
  exact bodyPost_ret (v := tokV kd (strB tx) vl of) (by simp [results, Tryd.results36, go_sem, World.cell?_setCell_same, World.cell?_setCell_other]) rfl ⟨rfl, ((((below_drewN ((Below.refl _ _).alloc (Nat.le_refl _) _) _).setCell (Nat.le_refl _) _).setCell (Nat.le_refl _) _).setCell (Nat.le_refl _) _).setCell (Nat.le_refl _) _⟩

set_option maxHeartbeats 400000 in
set_option maxRecDepth 100000 in
theorem next_nil (R en : Nat) (toks : List Tok) (w : World) (h : PSt R toks en w []) :
    Calls Tryd.prog 36 #[.pointer (some ⟨R, 0, none⟩)] w fun e w' => e = .returned (tokV 0 (strB []) 0 en) ∧ Below w.heap.size w w' := by
  have hR := h.lt
  obtain ⟨⟨k, h1, h2, c1⟩, ⟨A, c, c0, h5⟩, c2, _, hlen, _, _, _⟩ := h
  obtain ⟨n, hn⟩ : ∃ n, toks.length = n := ⟨_, rfl⟩
  have hlt : n ≤ k := by simp at h1; omega
  rw [hn] at c0 hlen
  clear h1 h2 h5 hn
  go_enter Tryd.func36, Tryd.ntmps36
  go_wp2_with fail
  go_quiet (fail)
  go_wp2_with fail
  exact bodyPost_ret (v := tokV 0 (strB []) 0 en) (by simp [results, Tryd.results36, go_sem, World.cell?_setCell_same, World.cell?_setCell_other, strB]) rfl ⟨rfl, ((((below_drewN ((Below.refl _ _).alloc (Nat.le_refl _) _) _).setCell (Nat.le_refl _) _).setCell (Nat.le_refl _) _).setCell (Nat.le_refl _) _).setCell (Nat.le_refl _) _⟩

theorem next_any (R en : Nat) (toks ts : List Tok) (w : World) (h : PSt R toks en w ts) :
    Calls Tryd.prog 36 #[.pointer (some ⟨R, 0, none⟩)] w fun e w' => e = .returned (.agg #[.int .i64 (knd ts), .string (strB (txt ts)), .int .i64 (vlu ts), .int .i64 (posOf en ts)]) ∧ Below w.heap.size w w' := by
  cases ts with
  | nil => exact next_nil R en toks w h
  | cons t r => exact next_cons R en toks r t w h

theorem fld0 (a b c d : Value) (w : World) : (Instr.field 54 (.agg #[a, b, c, d]) 0).run Tryd.prog w = .ok a w := by kernel_rfl
theorem fld1 (a b c d : Value) (w : World) : (Instr.field 54 (.agg #[a, b, c, d]) 1).run Tryd.prog w = .ok b w := by kernel_rfl
theorem fld2 (a b c d : Value) (w : World) : (Instr.field 54 (.agg #[a, b, c, d]) 2).run Tryd.prog w = .ok c w := by kernel_rfl
theorem fld3 (a b c d : Value) (w : World) : (Instr.field 54 (.agg #[a, b, c, d]) 3).run Tryd.prog w = .ok d w := by kernel_rfl

set_option maxHeartbeats 400000 in
set_option maxRecDepth 100000 in
theorem fail_any (R en : Nat) (toks ts : List Tok) (w : World) (h : PSt R toks en w ts) :
    Calls Tryd.prog 27 #[.pointer (some ⟨R, 0, none⟩)] w fun e w' => e = .panicked [thrown (posOf en ts)] ∧ Below w.heap.size w w' := by
  have hf := fld3
  go_enter Tryd.func27, Tryd.ntmps27
  go_wp2_with (go_at_call 36; refine (next_any _ _ _ _ _ h).mono ?_; rintro e w1 ⟨rfl, hb⟩)
  exact ⟨rfl, rfl, hb⟩

theorem str_ne {l : List UInt8} {s : ByteArray} (h : l ≠ s.data.toList) : ((strB l).toList == s.toList) = false := by
  rw [Lib.toList_data, Lib.toList_data]; simpa [strB] using h
theorem str_eq {l : List UInt8} {s : ByteArray} (h : l = s.data.toList) : ((strB l).toList == s.toList) = true := by
  rw [Lib.toList_data, Lib.toList_data]; simpa [strB] using h

set_option maxHeartbeats 400000 in
set_option maxRecDepth 100000 in
theorem accept_no (s : ByteArray) (R en : Nat) (toks ts : List Tok) (w : World) (h : PSt R toks en w ts) (hs : txt ts ≠ s.data.toList) :
    Calls Tryd.prog 33 #[.pointer (some ⟨R, 0, none⟩), .string s] w fun e w' => e = .returned (.bool false) ∧ Below w.heap.size w w' := by
  have H := Lib.hid h
  have ht := str_ne hs
  clear h hs
  have hf := fld1
  go_enter Tryd.func33, Tryd.ntmps33
  go_wp2_with (go_at_call 36; refine (next_any _ _ _ _ _ H.out).mono ?_; rintro e w1 ⟨rfl, hb⟩; have HB := Lib.hid hb; clear hb)
  go_ret
  exact ⟨rfl, HB.out⟩

set_option maxHeartbeats 400000 in
set_option maxRecDepth 100000 in
theorem accept_yes (s : ByteArray) (R en : Nat) (toks ts : List Tok) (w : World) (h : PSt R toks en w ts) (hs : txt ts = s.data.toList) (hne : ts ≠ []) :
    Calls Tryd.prog 33 #[.pointer (some ⟨R, 0, none⟩), .string s] w fun e w' => e = .returned (.bool true) ∧ PSt R toks en w' ts.tail ∧ Keep R w w' := by
  have H := Lib.hid h
  have ht := str_eq hs
  have HN := Lib.hid hne
  clear h hs hne
  have hf := fld1
  go_enter Tryd.func33, Tryd.ntmps33
  go_wp2_with fail
  refine (next_any _ _ _ _ _ H.out).mono ?_
  rintro e w1 ⟨rfl, hb⟩
  have H1 := Lib.hid (H.out.below hb)
  have HB := Lib.hid hb
  clear hb
  obtain ⟨k, k1, k2, c1⟩ := H1.out.at'
  have hlen := H1.out.len
  have hz := H1.out.fz
  have HK := Lib.hid (H1.out.take HN.out c1)
  have hk : (k : Int) ≤ 100000 := by omega
  clear k1 k2 hlen
  go_wp2_with fail
  go_ret
  exact ⟨rfl, HK.out, (Keep.of_below HB.out).setR (p := ⟨R, 1, none⟩) rfl _⟩

/-- expect. -/
theorem expect_any (s : ByteArray) (hs : s.data.toList ≠ []) (R en : Nat) (toks ts : List Tok) (w : World) (h : PSt R toks en w ts) :
    Calls Tryd.prog 43 #[.pointer (some ⟨R, 0, none⟩), .string s] w (PP R toks en VUnit (expectS s.data.toList ts) w) := by
  have H := Lib.hid h
  clear h
  unfold expectS
  by_cases ht : txt ts = s.data.toList
  · rw [if_pos ht]
    have HT := Lib.hid ht
    have HN : Hid (ts ≠ []) := fun h => hs (by rw [← ht, h]; rfl)
    clear ht hs
    go_enter Tryd.func43, Tryd.ntmps43
    go_wp2_with (go_at_call 33; refine (accept_yes _ _ _ _ _ _ H.out HT.out HN.out).mono ?_; rintro e w1 ⟨rfl, h1, h2⟩; have H1 := Lib.hid h1; have H2 := Lib.hid h2; clear h1 h2)
    go_end0
    exact ⟨_, rfl, rfl, H1.out, H2.out⟩
  · rw [if_neg ht]
    have HT := Lib.hid ht
    clear ht hs
    go_enter Tryd.func43, Tryd.ntmps43
    go_wp2_with (first | (go_at_call 33; refine (accept_no _ _ _ _ _ _ H.out HT.out).mono ?_; rintro e w1 ⟨rfl, hb⟩; have H1 := Lib.hid (H.out.below hb); have HB1 := Lib.hid hb; clear hb) | (go_at_call 27; refine (fail_any _ _ _ _ _ H1.out).mono ?_; rintro e w2 ⟨rfl, hb⟩; have HB2 := Lib.hid hb; clear hb))
    exact ⟨rfl, rfl, Keep.of_below (HB1.out.trans (HB2.out.mono HB1.out.size))⟩

theorem str_size (l : List UInt8) : (strB l).size = l.length := by simp [strB, ByteArray.size]
theorem str_data (l : List UInt8) : (strB l).data.toList = l := by simp [strB]
theorem valid_b (l : List UInt8) (hs : l.length ≤ 4096) (b : Bool) (h : validS l = b) (w : World) : Calls Tryd.prog 50 #[.string (strB l)] w fun e w' => e = .returned (.bool b) ∧ w = w' := by
  have := valid_any (strB l) w (by rw [str_size]; omega)
  rw [str_data, h] at this
  exact this

/-- A block of four cells more: what the parser's facts become. -/
theorem PSt.more {R en : Nat} {toks ts : List Tok} {w : World} (h : PSt R toks en w ts) (o : Obj) : PSt R toks en (w.alloc o) ts := h.below ((Below.refl _ _).alloc (Nat.le_refl _) _)

set_option maxHeartbeats 400000 in
set_option maxRecDepth 100000 in
theorem name_no (R en : Nat) (toks ts : List Tok) (w : World) (h : PSt R toks en w ts) (hv : ¬ (knd ts = 1 ∧ validS (txt ts) = true)) :
    Calls Tryd.prog 41 #[.pointer (some ⟨R, 0, none⟩)] w (PP R toks en VStr (.fail ts) w) := by
  have H := Lib.hid h
  have HT := Lib.hid h.txt
  clear h
  by_cases h1 : knd ts = 1
  · have HV : Hid (validS (txt ts) = false) := by
      cases e : validS (txt ts) with
      | false => exact rfl
      | true => exact absurd ⟨h1, e⟩ hv
    have h1' : (knd ts != 1) = false := by simp [h1]
    clear hv h1
    go_enter Tryd.func41, Tryd.ntmps41
    go_wp2_with (first | (go_at_call 36; refine (next_any _ _ _ _ _ H.out).mono ?_; rintro e w1 ⟨rfl, hb⟩; have H1 := Lib.hid (H.out.below hb); have HB1 := Lib.hid hb; clear hb) | (go_at_call 50; refine (valid_b _ HT.out _ HV.out _).mono ?_; rintro e w' ⟨rfl, rfl⟩) | (go_at_call 27; refine (fail_any _ _ _ _ _ (H1.out.more _)).mono ?_; rintro e w2 ⟨rfl, hb⟩; have HB2 := Lib.hid hb; clear hb))
    exact ⟨rfl, rfl, ((Keep.of_below HB1.out).alloc _).trans (Keep.of_below HB2.out)⟩
  · have h1' : (knd ts != 1) = true := by simp [h1]
    clear hv h1
    go_enter Tryd.func41, Tryd.ntmps41
    go_wp2_with (first | (go_at_call 36; refine (next_any _ _ _ _ _ H.out).mono ?_; rintro e w1 ⟨rfl, hb⟩; have H1 := Lib.hid (H.out.below hb); have HB1 := Lib.hid hb; clear hb) | (go_at_call 27; refine (fail_any _ _ _ _ _ (H1.out.more _)).mono ?_; rintro e w2 ⟨rfl, hb⟩; have HB2 := Lib.hid hb; clear hb))
    exact ⟨rfl, rfl, ((Keep.of_below HB1.out).alloc _).trans (Keep.of_below HB2.out)⟩

set_option maxHeartbeats 400000 in
set_option maxRecDepth 100000 in
theorem name_ok (R en : Nat) (toks ts : List Tok) (w : World) (h : PSt R toks en w ts) (h1 : knd ts = 1) (hv : validS (txt ts) = true) :
    Calls Tryd.prog 41 #[.pointer (some ⟨R, 0, none⟩)] w (PP R toks en VStr (.ok (txt ts) ts.tail) w) := by
  have H := Lib.hid h
  have HT := Lib.hid h.txt
  have HV := Lib.hid hv
  have HN : Hid (ts ≠ []) := fun e => by rw [e] at h1; simp [knd] at h1
  have h1' : (knd ts != 1) = false := by simp [h1]
  clear h h1 hv
  go_enter Tryd.func41, Tryd.ntmps41
  go_wp2_with fail
  refine (next_any _ _ _ _ _ H.out).mono ?_
  rintro e w1 ⟨rfl, hb⟩
  have H1 := Lib.hid (H.out.below hb)
  have HB := Lib.hid hb
  clear hb
  obtain ⟨k, k1, k2, c1⟩ := H1.out.at'
  have hlen := H1.out.len
  have hz := H1.out.fz
  have hR := H1.out.lt
  have HC := Lib.hid c1
  have hk : (k : Int) ≤ 100000 := by omega
  clear k1 k2 hlen
  go_wp2_with (go_at_call 50; refine (valid_b _ HT.out _ HV.out _).mono ?_; rintro e w' ⟨rfl, rfl⟩)
  go_ret
  exact ⟨_, rfl, rfl, (H1.out.take HN.out HC.out).more _, ((Keep.of_below HB.out).setR (p := ⟨R, 1, none⟩) rfl _).alloc _⟩

theorem name_any (R en : Nat) (toks ts : List Tok) (w : World) (h : PSt R toks en w ts) :
    Calls Tryd.prog 41 #[.pointer (some ⟨R, 0, none⟩)] w (PP R toks en VStr (nameS ts) w) := by
  unfold nameS
  by_cases hv : knd ts = 1 ∧ validS (txt ts) = true
  · rw [if_pos hv]; exact name_ok R en toks ts w h hv.1 hv.2
  · rw [if_neg hv]; exact name_no R en toks ts w h hv

set_option maxHeartbeats 400000 in
set_option maxRecDepth 100000 in
theorem number_no (least : Int) (R en : Nat) (toks ts : List Tok) (w : World) (h : PSt R toks en w ts) (hv : ¬ (knd ts = 2 ∧ least ≤ vlu ts)) :
    Calls Tryd.prog 42 #[.pointer (some ⟨R, 0, none⟩), .int .i64 least] w (PP R toks en VInt (.fail ts) w) := by
  have H := Lib.hid h
  clear h
  by_cases h1 : knd ts = 2
  · have h2 : vlu ts < least := by omega
    have h1' : (knd ts != 2) = false := by simp [h1]
    clear hv h1
    go_enter Tryd.func42, Tryd.ntmps42
    go_wp2_with (first | (go_at_call 36; refine (next_any _ _ _ _ _ H.out).mono ?_; rintro e w1 ⟨rfl, hb⟩; have H1 := Lib.hid (H.out.below hb); have HB1 := Lib.hid hb; clear hb) | (go_at_call 27; refine (fail_any _ _ _ _ _ (H1.out.more _)).mono ?_; rintro e w2 ⟨rfl, hb⟩; have HB2 := Lib.hid hb; clear hb))
    exact ⟨rfl, rfl, ((Keep.of_below HB1.out).alloc _).trans (Keep.of_below HB2.out)⟩
  · have h1' : (knd ts != 2) = true := by simp [h1]
    clear hv h1
    go_enter Tryd.func42, Tryd.ntmps42
    go_wp2_with (first | (go_at_call 36; refine (next_any _ _ _ _ _ H.out).mono ?_; rintro e w1 ⟨rfl, hb⟩; have H1 := Lib.hid (H.out.below hb); have HB1 := Lib.hid hb; clear hb) | (go_at_call 27; refine (fail_any _ _ _ _ _ (H1.out.more _)).mono ?_; rintro e w2 ⟨rfl, hb⟩; have HB2 := Lib.hid hb; clear hb))
    exact ⟨rfl, rfl, ((Keep.of_below HB1.out).alloc _).trans (Keep.of_below HB2.out)⟩

set_option maxHeartbeats 400000 in
set_option maxRecDepth 100000 in
theorem number_ok (least : Int) (R en : Nat) (toks ts : List Tok) (w : World) (h : PSt R toks en w ts) (h1 : knd ts = 2) (hv : least ≤ vlu ts) :
    Calls Tryd.prog 42 #[.pointer (some ⟨R, 0, none⟩), .int .i64 least] w (PP R toks en VInt (.ok (vlu ts) ts.tail) w) := by
  have H := Lib.hid h
  have HN : Hid (ts ≠ []) := fun e => by rw [e] at h1; simp [knd] at h1
  have h1' : (knd ts != 2) = false := by simp [h1]
  clear h h1
  go_enter Tryd.func42, Tryd.ntmps42
  go_wp2_with fail
  refine (next_any _ _ _ _ _ H.out).mono ?_
  rintro e w1 ⟨rfl, hb⟩
  have H1 := Lib.hid (H.out.below hb)
  have HB := Lib.hid hb
  clear hb
  obtain ⟨k, k1, k2, c1⟩ := H1.out.at'
  have hlen := H1.out.len
  have hz := H1.out.fz
  have hR := H1.out.lt
  have HC := Lib.hid c1
  have hk : (k : Int) ≤ 100000 := by omega
  clear k1 k2 hlen
  go_wp2_with fail
  go_ret
  exact ⟨_, rfl, rfl, (H1.out.take HN.out HC.out).more _, ((Keep.of_below HB.out).setR (p := ⟨R, 1, none⟩) rfl _).alloc _⟩

theorem number_any (least : Int) (R en : Nat) (toks ts : List Tok) (w : World) (h : PSt R toks en w ts) :
    Calls Tryd.prog 42 #[.pointer (some ⟨R, 0, none⟩), .int .i64 least] w (PP R toks en VInt (numS least ts) w) := by
  unfold numS
  by_cases hv : knd ts = 2 ∧ least ≤ vlu ts
  · rw [if_pos hv]; exact number_ok least R en toks ts w h hv.1 hv.2
  · rw [if_neg hv]; exact number_no least R en toks ts w h hv
end Go.Proofs.YtdlnpfocmgclmaaDoor
