/-
  What number, name, sign and first of package token return: the token that a text begins with. Conditions: the text has at least one byte and at most 2^47; the library's variables ErrRange and uint64pow10 hold what start-up laid.
-/
import Derived.Test.YtdlnpfocmgclmaaDoorWalkB
import Derived.Test.YtdlnpfocmgclmaaDoorWalkK
import Derived.Test.YtdlnpfocmgclmaaDoorMathN
import Derived.Test.YtdlnpfocmgclmaaDoorShelf
import Derived.Lib.IndexBytes
import Derived.Lib.SmallJoins
import Derived.Lib.ItoaNum
namespace Go.Proofs.YtdlnpfocmgclmaaDoor
open Go.RowKit


/-- What the calls lean on: two variables of the library's. -/
structure LW (w : World) : Prop where
  tab : Lib.TabIs Tryd.prog w "internal/strconv.uint64pow10" .u64 Lib.pow10Tab
  rng : ∃ tp p, w.var? Tryd.prog "strconv.ErrRange" = some #[.iface tp p]
  big : 4 ≤ w.heap.size

theorem gTab : Tryd.prog.globalNamed "internal/strconv.uint64pow10" = some 3 := by kernel_rfl
theorem gRng : Tryd.prog.globalNamed "strconv.ErrRange" = some 1 := by kernel_rfl
theorem LW.below {B : Nat} {w w' : World} (h : LW w) (hb : Below B w w') (hB : 4 ≤ B) : LW w' := by
  refine ⟨var?_below hb gTab (by omega) h.tab, ?_, Nat.le_trans h.big hb.size⟩
  obtain ⟨tp, p, hv⟩ := h.rng
  exact ⟨tp, p, var?_below hb gRng (by omega) hv⟩


/-- What first and its parts return. -/
def FirstPost (r : Int × FTok) (w : World) (e : Ending) (w' : World) : Prop :=
  e = .returned (.tuple #[tokV r.2.kind (strB r.2.text) r.2.value 0, .int .i64 r.2.size, .int .i64 r.1]) ∧ Below w.heap.size w w'

theorem FirstPost.of {r : Int × FTok} {w : World} {e : Ending} {w' : World} {k v n er : Int} {t : ByteArray} (hb : Below w.heap.size w w') (he : e = .returned (.tuple #[tokV k t v 0, .int .i64 n, .int .i64 er]))
    (h1 : r.2.kind = k) (h2 : strB r.2.text = t) (h3 : r.2.value = v) (h4 : (r.2.size : Int) = n) (h5 : r.1 = er) : FirstPost r w e w' := by
  subst h1 h2 h3 h4 h5; exact ⟨he, hb⟩

set_option maxHeartbeats 400000 in
theorem name_long (s : ByteArray) (w : World) (hs : s.size ≤ 9223372036854775807) (h : 16 < nameSz s.data.toList) :
    Calls Tryd.prog 23 #[.string s] w fun e w' => e = .returned (.tuple #[tokV 0 (strB []) 0 0, .int .i64 0, .int .i64 5]) ∧ Below w.heap.size w w' := by
  go_enter Tryd.func23, Tryd.ntmps23
  go_wp2_with (go_at_call 31; refine (nameSize_any _ _ hs).mono ?_; rintro e w' ⟨rfl, rfl⟩)
  exact bodyPost_ret (v := .tuple #[tokV 0 (strB []) 0 0, .int .i64 0, .int .i64 5]) (by simp [results, Tryd.results23, go_sem, tokV, strB]) rfl ⟨rfl, (Below.refl _ _).alloc (Nat.le_refl _) _⟩
set_option maxHeartbeats 400000 in
theorem tk_name_ok (s : ByteArray) (w : World) (hs : s.size ≤ 9223372036854775807) (h : nameSz s.data.toList ≤ 16) :
    Calls Tryd.prog 23 #[.string s] w fun e w' => e = .returned (.tuple #[tokV 1 (s.extract 0 (nameSz s.data.toList)) 0 0, .int .i64 (nameSz s.data.toList), .int .i64 0]) ∧ Below w.heap.size w w' := by
  have hn := nameSz_le s.data.toList
  simp only [Array.length_toList] at hn
  go_enter Tryd.func23, Tryd.ntmps23
  go_wp2_with (go_at_call 31; refine (nameSize_any _ _ hs).mono ?_; rintro e w' ⟨rfl, rfl⟩)
  exact bodyPost_ret (v := .tuple #[tokV 1 (s.extract 0 (nameSz s.data.toList)) 0 0, .int .i64 (nameSz s.data.toList), .int .i64 0]) (by simp [results, Tryd.results23, go_sem, tokV]) rfl ⟨rfl, (Below.refl _ _).alloc (Nat.le_refl _) _⟩

theorem signSize_any (s : ByteArray) (w : World) (h0 : 0 < s.size) :
    Calls Tryd.prog 32 #[.string s] w fun e w' => e = .returned (.int .i64 (signSz s[0].toNat (secondB s.data.toList))) ∧ w = w' := by
  have hd := drop_get s 0 h0
  rw [List.drop_zero] at hd
  by_cases h1 : 1 < s.size
  · have hd1 := drop_get s 1 h1
    rw [hd1] at hd
    rw [hd]
    exact signSize_two s w h1
  · have e1 : s.data.toList.drop 1 = [] := List.drop_eq_nil_of_le (by simp; omega)
    rw [e1] at hd
    rw [hd]
    exact signSize_one s w (by omega)

theorem signSize_n (s : ByteArray) (w : World) (h0 : 0 < s.size) (n : Int) (h : signSz s[0].toNat (secondB s.data.toList) = n) :
    Calls Tryd.prog 32 #[.string s] w fun e w' => e = .returned (.int .i64 n) ∧ w = w' := by
  subst h; exact signSize_any s w h0

set_option maxHeartbeats 400000 in
theorem sign_none (s : ByteArray) (w : World) (h0 : 0 < s.size) (h : signSz s[0].toNat (secondB s.data.toList) = 0) :
    Calls Tryd.prog 24 #[.string s] w fun e w' => e = .returned (.tuple #[tokV 0 (strB []) 0 0, .int .i64 0, .int .i64 1]) ∧ Below w.heap.size w w' := by
  have H : Hid (signSz s[0].toNat (secondB s.data.toList) = 0) := h
  clear h
  go_enter Tryd.func24, Tryd.ntmps24
  go_wp2_with (go_at_call 32; refine (signSize_n s _ h0 0 H.out).mono ?_; rintro e w' ⟨rfl, rfl⟩)
  exact bodyPost_ret (v := .tuple #[tokV 0 (strB []) 0 0, .int .i64 0, .int .i64 1]) (by simp [results, Tryd.results24, go_sem, tokV, strB]) rfl ⟨rfl, (Below.refl _ _).alloc (Nat.le_refl _) _⟩
set_option maxHeartbeats 400000 in
theorem sign_ok (s : ByteArray) (w : World) (h0 : 0 < s.size) (n : Nat) (hn : 0 < n) (hle : n ≤ s.size) (h : signSz s[0].toNat (secondB s.data.toList) = n) :
    Calls Tryd.prog 24 #[.string s] w fun e w' => e = .returned (.tuple #[tokV 3 (s.extract 0 n) 0 0, .int .i64 n, .int .i64 0]) ∧ Below w.heap.size w w' := by
  have H : Hid (signSz s[0].toNat (secondB s.data.toList) = n) := h
  clear h
  have hz : ((n : Int) == 0) = false := by simp; omega
  go_enter Tryd.func24, Tryd.ntmps24
  go_wp2_with (go_at_call 32; refine (signSize_n s _ h0 n H.out).mono ?_; rintro e w' ⟨rfl, rfl⟩)
  exact bodyPost_ret (v := .tuple #[tokV 3 (s.extract 0 n) 0 0, .int .i64 n, .int .i64 0]) (by simp [results, Tryd.results24, go_sem, tokV]) rfl ⟨rfl, (Below.refl _ _).alloc (Nat.le_refl _) _⟩

theorem atoi_ok (s : ByteArray) (hmax : s.size ≤ 9223372036854775806) (v : Int) (h : Lib.atoiAll s.data.toList = .ok v) (w : World) :
    Calls Tryd.prog 30 #[.string s] w fun e w' => e = .returned (.tuple #[.int .i64 v, .nilIface]) ∧ Below w.heap.size w w' := by
  refine (Tryd.strconv_Atoi_ok s hmax v h w).mono ?_
  rintro e w' ⟨rfl, rfl | ⟨t, rfl⟩⟩
  · exact ⟨rfl, Below.refl _ _⟩
  · exact ⟨rfl, Lib.bytesWorld_below w _ t⟩
theorem atoi_range (s : ByteArray) (hlim : s.size ≤ 281474976710656) (h : Lib.atoiAll s.data.toList = .range) (w : World) (hw : LW w) :
    Calls Tryd.prog 30 #[.string s] w fun e w' => ∃ (v : Int) (T : TypeId) (N : Addr), e = .returned (.tuple #[.int .i64 v, .iface T (.pointer (some N))]) ∧ Below w.heap.size w w' := by
  obtain ⟨tp, p, hv⟩ := hw.rng
  refine (Tryd.strconv_Atoi_range_var s hlim h tp p w hv).mono ?_
  rintro e w' ⟨N, he, _, _, hb⟩
  exact ⟨_, _, _, he, hb⟩

theorem numberSize_n (s : ByteArray) (w : World) (hs : s.size ≤ 9223372036854775807) (h0 : 0 < s.size) (n : Nat) (h : numSz s.data.toList = n) :
    Calls Tryd.prog 28 #[.string s] w fun e w' => e = .returned (.int .i64 n) ∧ w = w' := by
  subst h; exact numberSize_any s w hs h0
theorem isWord_b (c : Int) (b : Bool) (h : wordC c = b) (w : World) : Calls Tryd.prog 29 #[.int .u8 c] w fun e w' => e = .returned (.bool b) ∧ w = w' := by
  subst h; exact isWord_any c w

set_option maxHeartbeats 400000 in
theorem number_word (s : ByteArray) (w : World) (h0 : 0 < s.size) (n : Nat) (hle : n < s.size) (hs : s.size ≤ 9223372036854775807) (h : numSz s.data.toList = n) (hw : wordC s[n].toNat = true) :
    Calls Tryd.prog 21 #[.string s] w fun e w' => e = .returned (.tuple #[tokV 0 (strB []) 0 0, .int .i64 0, .int .i64 1]) ∧ Below w.heap.size w w' := by
  have H : Hid (numSz s.data.toList = n) := h
  clear h
  have HW : Hid (wordC s[n].toNat = true) := hw
  clear hw
  go_enter Tryd.func21, Tryd.ntmps21
  go_wp2_with (first | (go_at_call 28; refine (numberSize_n s _ hs h0 n H.out).mono ?_; rintro e w' ⟨rfl, rfl⟩) | (go_at_call 29; refine (isWord_b _ _ HW.out _).mono ?_; rintro e w' ⟨rfl, rfl⟩))
  exact bodyPost_ret (v := .tuple #[tokV 0 (strB []) 0 0, .int .i64 0, .int .i64 1]) (by simp [results, Tryd.results21, go_sem, tokV, strB]) rfl ⟨rfl, (Below.refl _ _).alloc (Nat.le_refl _) _⟩

/-- The block of a result behind a call that makes blocks. -/
theorem res_block {w w' : World} {a b c d : Value} {T : TypeId} (hb : Below (w.alloc (.cells #[a, b, c, d] T)).heap.size (w.alloc (.cells #[a, b, c, d] T)) w') :
    w'.cell? ⟨w.heap.size, 0, none⟩ = some a ∧ w'.cell? ⟨w.heap.size, 1, none⟩ = some b ∧ w'.cell? ⟨w.heap.size, 2, none⟩ = some c ∧ w'.cell? ⟨w.heap.size, 3, none⟩ = some d ∧
    w'.frozen? ⟨w.heap.size, 0, none⟩ = false ∧ w'.frozen? ⟨w.heap.size, 1, none⟩ = false ∧ w'.frozen? ⟨w.heap.size, 2, none⟩ = false ∧ w'.frozen? ⟨w.heap.size, 3, none⟩ = false ∧ w.heap.size < w'.heap.size := by
  have hh : w'.heap[w.heap.size]? = some (.cells #[a, b, c, d] T (0, 0)) := by
    rw [hb.block w.heap.size (by simp)]; exact heap_alloc_new w _
  have hz := hb.size
  simp only [World.size_alloc] at hz
  exact ⟨by rw [Lib.cell_of_heap hh]; rfl, by rw [Lib.cell_of_heap hh]; rfl, by rw [Lib.cell_of_heap hh]; rfl, by rw [Lib.cell_of_heap hh]; rfl, Lib.frozen_of_heap hh 0, Lib.frozen_of_heap hh 1, Lib.frozen_of_heap hh 2, Lib.frozen_of_heap hh 3, by omega⟩

/-- What is known behind the number of a text. -/
def NoWordAt (s : ByteArray) (n : Nat) : Prop := ∀ h : n < s.size, wordC s[n].toNat = false

set_option maxHeartbeats 400000 in
theorem tk_number_ok (s : ByteArray) (w : World) (h0 : 0 < s.size) (n : Nat) (hle : n ≤ s.size) (hs : s.size ≤ 9223372036854775806) (h : numSz s.data.toList = n) (hw : NoWordAt s n) (v : Int) (hv : Lib.atoiAll (s.extract 0 n).data.toList = .ok v) :
    Calls Tryd.prog 21 #[.string s] w fun e w' => e = .returned (.tuple #[tokV 2 (strB []) v 0, .int .i64 n, .int .i64 0]) ∧ Below w.heap.size w w' := by
  have H : Hid (numSz s.data.toList = n) := h
  clear h
  have HV : Hid (Lib.atoiAll (s.extract 0 n).data.toList = .ok v) := hv
  clear hv
  have hsz : (s.extract 0 n).size ≤ 9223372036854775806 := by simp; omega
  have HS : Hid (s.size ≤ 9223372036854775807) := (show s.size ≤ 9223372036854775807 by omega)
  by_cases hlt : n < s.size
  · have HW : Hid (wordC s[n].toNat = false) := hw hlt
    clear hw
    go_enter Tryd.func21, Tryd.ntmps21
    go_wp2_with (first | (go_at_call 28; refine (numberSize_n s _ HS.out h0 n H.out).mono ?_; rintro e w' ⟨rfl, rfl⟩) | (go_at_call 29; refine (isWord_b _ _ HW.out _).mono ?_; rintro e w' ⟨rfl, rfl⟩) | (go_at_call 30; refine (atoi_ok _ hsz v HV.out _).mono ?_; rintro e w' ⟨rfl, hb⟩; obtain ⟨c0, c1, c2, c3, f0, f1, f2, f3, hz⟩ := res_block hb; have HB := Lib.hid hb; clear hb))
    refine bodyPost_ret (v := .tuple #[tokV 2 (strB []) v 0, .int .i64 n, .int .i64 0]) (by simp [results, Tryd.results21, go_sem, tokV, strB, World.cell?_setCell_same, World.cell?_setCell_other, c0, c1, c2, c3]) rfl ⟨rfl, ?_⟩
    have hB := ((Below.refl w.heap.size w).alloc (Nat.le_refl _) _).trans (HB.out.mono (by simp))
    exact (((hB.setCell (Nat.le_refl _) _).setCell (Nat.le_refl _) _).setCell (Nat.le_refl _) _).setCell (Nat.le_refl _) _
  · clear hw
    go_enter Tryd.func21, Tryd.ntmps21
    go_wp2_with (first | (go_at_call 28; refine (numberSize_n s _ HS.out h0 n H.out).mono ?_; rintro e w' ⟨rfl, rfl⟩) | (go_at_call 30; refine (atoi_ok _ hsz v HV.out _).mono ?_; rintro e w' ⟨rfl, hb⟩; obtain ⟨c0, c1, c2, c3, f0, f1, f2, f3, hz⟩ := res_block hb; have HB := Lib.hid hb; clear hb))
    refine bodyPost_ret (v := .tuple #[tokV 2 (strB []) v 0, .int .i64 n, .int .i64 0]) (by simp [results, Tryd.results21, go_sem, tokV, strB, World.cell?_setCell_same, World.cell?_setCell_other, c0, c1, c2, c3]) rfl ⟨rfl, ?_⟩
    have hB := ((Below.refl w.heap.size w).alloc (Nat.le_refl _) _).trans (HB.out.mono (by simp))
    exact (((hB.setCell (Nat.le_refl _) _).setCell (Nat.le_refl _) _).setCell (Nat.le_refl _) _).setCell (Nat.le_refl _) _

set_option maxHeartbeats 400000 in
theorem number_range (s : ByteArray) (w : World) (h0 : 0 < s.size) (n : Nat) (hle : n ≤ s.size) (hs : s.size ≤ 281474976710656) (h : numSz s.data.toList = n) (hw : NoWordAt s n) (hv : Lib.atoiAll (s.extract 0 n).data.toList = .range) (hL : LW w) :
    Calls Tryd.prog 21 #[.string s] w fun e w' => e = .returned (.tuple #[tokV 0 (strB []) 0 0, .int .i64 0, .int .i64 3]) ∧ Below w.heap.size w w' := by
  have H : Hid (numSz s.data.toList = n) := h
  clear h
  have HV : Hid (Lib.atoiAll (s.extract 0 n).data.toList = .range) := hv
  clear hv
  have hsz : (s.extract 0 n).size ≤ 281474976710656 := by simp; omega
  have HL : Hid (LW (w.alloc (.cells #[.int .i64 0, .string ⟨#[]⟩, .int .i64 0, .int .i64 0] 54))) := hL.below ((Below.refl _ _).alloc (Nat.le_refl _) _) hL.big
  clear hL
  have HS : Hid (s.size ≤ 9223372036854775807) := (show s.size ≤ 9223372036854775807 by omega)
  by_cases hlt : n < s.size
  · have HW : Hid (wordC s[n].toNat = false) := hw hlt
    clear hw
    go_enter Tryd.func21, Tryd.ntmps21
    go_wp2_with (first | (go_at_call 28; refine (numberSize_n s _ HS.out h0 n H.out).mono ?_; rintro e w' ⟨rfl, rfl⟩) | (go_at_call 29; refine (isWord_b _ _ HW.out _).mono ?_; rintro e w' ⟨rfl, rfl⟩) | (go_at_call 30; refine (atoi_range _ hsz HV.out _ HL.out).mono ?_; rintro e w' ⟨v, T, N, rfl, hb⟩; obtain ⟨c0, c1, c2, c3, f0, f1, f2, f3, hz⟩ := res_block hb; have HB := Lib.hid hb; clear hb))
    refine bodyPost_ret (v := .tuple #[tokV 0 (strB []) 0 0, .int .i64 0, .int .i64 3]) (by simp [results, Tryd.results21, go_sem, tokV, strB, World.cell?_setCell_same, World.cell?_setCell_other, c0, c1, c2, c3]) rfl ⟨rfl, ?_⟩
    have hB := ((Below.refl w.heap.size w).alloc (Nat.le_refl _) _).trans (HB.out.mono (by simp))
    exact (((hB.setCell (Nat.le_refl _) _).setCell (Nat.le_refl _) _).setCell (Nat.le_refl _) _).setCell (Nat.le_refl _) _
  · clear hw
    go_enter Tryd.func21, Tryd.ntmps21
    go_wp2_with (first | (go_at_call 28; refine (numberSize_n s _ HS.out h0 n H.out).mono ?_; rintro e w' ⟨rfl, rfl⟩) | (go_at_call 30; refine (atoi_range _ hsz HV.out _ HL.out).mono ?_; rintro e w' ⟨v, T, N, rfl, hb⟩; obtain ⟨c0, c1, c2, c3, f0, f1, f2, f3, hz⟩ := res_block hb; have HB := Lib.hid hb; clear hb))
    refine bodyPost_ret (v := .tuple #[tokV 0 (strB []) 0 0, .int .i64 0, .int .i64 3]) (by simp [results, Tryd.results21, go_sem, tokV, strB, World.cell?_setCell_same, World.cell?_setCell_other, c0, c1, c2, c3]) rfl ⟨rfl, ?_⟩
    have hB := ((Below.refl w.heap.size w).alloc (Nat.le_refl _) _).trans (HB.out.mono (by simp))
    exact (((hB.setCell (Nat.le_refl _) _).setCell (Nat.le_refl _) _).setCell (Nat.le_refl _) _).setCell (Nat.le_refl _) _


theorem head_drop (s : ByteArray) (n : Nat) (h : n < s.size) : headWord (s.data.toList.drop n) = wordC s[n].toNat := by rw [drop_get s n h]; rfl
theorem head_drop_end (s : ByteArray) (n : Nat) (h : s.size ≤ n) : headWord (s.data.toList.drop n) = false := by
  rw [List.drop_eq_nil_of_le (by simpa using h)]; rfl
theorem firstS_digit {l r : List UInt8} {c : UInt8} (e : l = c :: r) (hd : digitC c.toNat = true) : firstS l =
    if headWord (l.drop (numSz l)) then (1, noTok)
    else if decVal 0 (l.take (numSz l)) < 9223372036854775808 then (0, ⟨2, [], decVal 0 (l.take (numSz l)), numSz l⟩)
    else (3, noTok) := by
  subst e
  simp only [firstS, hd, if_true]
theorem firstS_name {l r : List UInt8} {c : UInt8} (e : l = c :: r) (hd : digitC c.toNat = false) (hl : letterC c.toNat = true) : firstS l =
    if nameSz l ≤ 16 then (0, ⟨1, l.take (nameSz l), 0, nameSz l⟩) else (5, noTok) := by
  subst e
  simp only [firstS, hd, hl, if_true]; rfl
theorem firstS_sign {l r : List UInt8} {c : UInt8} (e : l = c :: r) (hd : digitC c.toNat = false) (hl : letterC c.toNat = false) : firstS l =
    if signSz c.toNat (secondB l) = 0 then (1, noTok)
    else (0, ⟨3, l.take (signSz c.toNat (secondB l)).toNat, 0, (signSz c.toNat (secondB l)).toNat⟩) := by
  subst e
  simp only [firstS, hd, hl]; rfl

theorem tk_number_any (s : ByteArray) (w : World) (h0 : 0 < s.size) (hs : s.size ≤ 281474976710656) (hL : LW w) (hd : digitC s[0].toNat = true) :
    Calls Tryd.prog 21 #[.string s] w (FirstPost (firstS s.data.toList) w) := by
  have hle : numSz s.data.toList ≤ s.size := by simpa using numSz_le s.data.toList
  rw [firstS_digit (list_cons s h0) hd]
  by_cases hw : headWord (s.data.toList.drop (numSz s.data.toList)) = true
  · have hlt : numSz s.data.toList < s.size := by
      rcases Nat.lt_or_ge (numSz s.data.toList) s.size with h | h
      · exact h
      · rw [head_drop_end s _ h] at hw; cases hw
    rw [if_pos hw]
    rw [head_drop s _ hlt] at hw
    exact (number_word s w h0 _ hlt (by omega) rfl hw).mono fun e w' ⟨he, hb⟩ => FirstPost.of hb he rfl rfl rfl rfl rfl
  · rw [if_neg hw]
    have hno : NoWordAt s (numSz s.data.toList) := fun h => by rw [head_drop s _ h] at hw; simpa using hw
    have hx : (s.extract 0 (numSz s.data.toList)).data.toList = s.data.toList.take (numSz s.data.toList) := by rw [Lib.extract_data]; simp
    have hne : s.data.toList.take (numSz s.data.toList) ≠ [] := by
      have e := list_cons s h0
      have hp := numSz_pos s[0] (s.data.toList.drop 1)
      rw [← e] at hp
      intro h
      have := congrArg List.length h
      have hsz : s.data.toList.length = s.size := by simp
      rw [List.length_take, List.length_nil, hsz] at this
      omega
    have hall : allDig (s.data.toList.take (numSz s.data.toList)) := allDig_num _ (fun c r h => by
      have e := (list_cons s h0).symm.trans h
      injection e with e1 _
      rw [← e1]; exact hd)
    have ha := atoi_dec _ hne hall
    by_cases hv : decVal 0 (s.data.toList.take (numSz s.data.toList)) < 9223372036854775808
    · rw [if_pos hv] at ha ⊢
      exact (tk_number_ok s w h0 _ hle (by omega) rfl hno _ (by rw [hx]; exact ha)).mono fun e w' ⟨he, hb⟩ => FirstPost.of hb he rfl rfl rfl rfl rfl
    · rw [if_neg hv] at ha ⊢
      exact (number_range s w h0 _ hle hs rfl hno (by rw [hx]; exact ha) hL).mono fun e w' ⟨he, hb⟩ => FirstPost.of hb he rfl rfl rfl rfl rfl

theorem tk_name_any (s : ByteArray) (w : World) (h0 : 0 < s.size) (hs : s.size ≤ 281474976710656) (hd : digitC s[0].toNat = false) (hl : letterC s[0].toNat = true) :
    Calls Tryd.prog 23 #[.string s] w (FirstPost (firstS s.data.toList) w) := by
  rw [firstS_name (list_cons s h0) hd hl]
  by_cases h : nameSz s.data.toList ≤ 16
  · rw [if_pos h]
    exact (tk_name_ok s w (by omega) h).mono fun e w' ⟨he, hb⟩ => FirstPost.of hb he rfl (strB_take s _).symm rfl rfl rfl
  · rw [if_neg h]
    exact (name_long s w (by omega) (by omega)).mono fun e w' ⟨he, hb⟩ => FirstPost.of hb he rfl rfl rfl rfl rfl

theorem sign_any (s : ByteArray) (w : World) (h0 : 0 < s.size) (hs : s.size ≤ 281474976710656) (hd : digitC s[0].toNat = false) (hl : letterC s[0].toNat = false) :
    Calls Tryd.prog 24 #[.string s] w (FirstPost (firstS s.data.toList) w) := by
  rw [firstS_sign (list_cons s h0) hd hl]
  have hbd := signSz_bd s[0].toNat (secondB s.data.toList)
  by_cases h : signSz s[0].toNat (secondB s.data.toList) = 0
  · rw [if_pos h]
    exact (sign_none s w h0 h).mono fun e w' ⟨he, hb⟩ => FirstPost.of hb he rfl rfl rfl rfl rfl
  · rw [if_neg h]
    have hn : signSz s[0].toNat (secondB s.data.toList) = ((signSz s[0].toNat (secondB s.data.toList)).toNat : Int) := by omega
    have hle : (signSz s[0].toNat (secondB s.data.toList)).toNat ≤ s.size := by
      by_cases h1 : 1 < s.size
      · omega
      · have h2 := signSz_two s[0].toNat (secondB s.data.toList)
        have e1 : s.data.toList.drop 1 = [] := List.drop_eq_nil_of_le (by simp; omega)
        have e2 : secondB s.data.toList = 0 := by rw [list_cons s h0, e1]; rfl
        have : ¬ signSz s[0].toNat (secondB s.data.toList) = 2 := fun h => h2 h e2
        omega
    exact (sign_ok s w h0 _ (by omega) hle hn).mono fun e w' ⟨he, hb⟩ => FirstPost.of hb he rfl (strB_take s _).symm rfl rfl rfl

theorem FirstPost.through {w w' : World} {a b c d : Value} {v0 v1 v2 v3 : Value} (hb : Below (w.alloc (.cells #[a, b, c, d] 54)).heap.size (w.alloc (.cells #[a, b, c, d] 54)) w') :
    Below w.heap.size w ((((w'.setCell ⟨w.heap.size, 0, none⟩ v0).setCell ⟨w.heap.size, 1, none⟩ v1).setCell ⟨w.heap.size, 2, none⟩ v2).setCell ⟨w.heap.size, 3, none⟩ v3) := by
  have hB := ((Below.refl w.heap.size w).alloc (Nat.le_refl _) _).trans (hb.mono (by simp))
  exact (((hB.setCell (Nat.le_refl _) _).setCell (Nat.le_refl _) _).setCell (Nat.le_refl _) _).setCell (Nat.le_refl _) _

set_option maxHeartbeats 800000 in
theorem first_any (s : ByteArray) (w : World) (h0 : 0 < s.size) (hs : s.size ≤ 281474976710656) (hL : LW w) :
    Calls Tryd.prog 15 #[.string s] w (FirstPost (firstS s.data.toList) w) := by
  have HL : Hid (LW (w.alloc (.cells #[.int .i64 0, .string ⟨#[]⟩, .int .i64 0, .int .i64 0] 54))) := hL.below ((Below.refl _ _).alloc (Nat.le_refl _) _) hL.big
  clear hL
  have HS : Hid (s.size ≤ 281474976710656) := hs
  clear hs
  by_cases hd : digitC s[0].toNat = true
  · have HD : Hid (digitC s[0].toNat = true) := hd
    clear hd
    go_enter Tryd.func15, Tryd.ntmps15
    go_wp2_with (first | (go_at_call 20; refine (isDigit_b _ _ HD.out _).mono ?_; rintro e w' ⟨rfl, rfl⟩) | (go_at_call 21; refine (tk_number_any _ _ h0 HS.out HL.out HD.out).mono ?_; rintro e w' ⟨rfl, hb⟩; obtain ⟨c0, c1, c2, c3, f0, f1, f2, f3, hz⟩ := res_block hb; have HB := Lib.hid hb; clear hb))
    exact bodyPost_ret (v := .tuple #[tokV (firstS s.data.toList).2.kind (strB (firstS s.data.toList).2.text) (firstS s.data.toList).2.value 0, .int .i64 (firstS s.data.toList).2.size, .int .i64 (firstS s.data.toList).1]) (by simp [results, Tryd.results15, go_sem, World.cell?_setCell_same, World.cell?_setCell_other, c0, c1, c2, c3]) rfl ⟨rfl, FirstPost.through HB.out⟩
  · have HD : Hid (digitC s[0].toNat = false) := hid_false hd
    clear hd
    by_cases hl : letterC s[0].toNat = true
    · have HT : Hid (letterC s[0].toNat = true) := hl
      clear hl
      go_enter Tryd.func15, Tryd.ntmps15
      go_wp2_with (first | (go_at_call 20; refine (isDigit_b _ _ HD.out _).mono ?_; rintro e w' ⟨rfl, rfl⟩) | (go_at_call 22; refine (isLetter_b _ _ HT.out _).mono ?_; rintro e w' ⟨rfl, rfl⟩) | (go_at_call 23; refine (tk_name_any _ _ h0 HS.out HD.out HT.out).mono ?_; rintro e w' ⟨rfl, hb⟩; obtain ⟨c0, c1, c2, c3, f0, f1, f2, f3, hz⟩ := res_block hb; have HB := Lib.hid hb; clear hb))
      exact bodyPost_ret (v := .tuple #[tokV (firstS s.data.toList).2.kind (strB (firstS s.data.toList).2.text) (firstS s.data.toList).2.value 0, .int .i64 (firstS s.data.toList).2.size, .int .i64 (firstS s.data.toList).1]) (by simp [results, Tryd.results15, go_sem, World.cell?_setCell_same, World.cell?_setCell_other, c0, c1, c2, c3]) rfl ⟨rfl, FirstPost.through HB.out⟩
    · have HT : Hid (letterC s[0].toNat = false) := hid_false hl
      clear hl
      go_enter Tryd.func15, Tryd.ntmps15
      go_wp2_with (first | (go_at_call 20; refine (isDigit_b _ _ HD.out _).mono ?_; rintro e w' ⟨rfl, rfl⟩) | (go_at_call 22; refine (isLetter_b _ _ HT.out _).mono ?_; rintro e w' ⟨rfl, rfl⟩) | (go_at_call 24; refine (sign_any _ _ h0 HS.out HD.out HT.out).mono ?_; rintro e w' ⟨rfl, hb⟩; obtain ⟨c0, c1, c2, c3, f0, f1, f2, f3, hz⟩ := res_block hb; have HB := Lib.hid hb; clear hb))
      exact bodyPost_ret (v := .tuple #[tokV (firstS s.data.toList).2.kind (strB (firstS s.data.toList).2.text) (firstS s.data.toList).2.value 0, .int .i64 (firstS s.data.toList).2.size, .int .i64 (firstS s.data.toList).1]) (by simp [results, Tryd.results15, go_sem, World.cell?_setCell_same, World.cell?_setCell_other, c0, c1, c2, c3]) rfl ⟨rfl, FirstPost.through HB.out⟩

end Go.Proofs.YtdlnpfocmgclmaaDoor
