/-
  What one of the document's answer returns: the token at a place of a text. Conditions: the place lies in the text, which has at most 4096 bytes.
-/
import Derived.Test.YtaenmaokieomgaaDoorWalkR
import Derived.Deep.DeepCutAuto
namespace Go.Proofs.YtaenmaokieomgaaDoor
open Go.RowKit

theorem rletter_b (c : Int) (b : Bool) (h : letterC c = b) (w : World) : Calls Tryd.prog 32 #[.int .u8 c] w fun e w' => e = .returned (.bool b) ∧ w = w' := by
  subst h; exact rletter_any c w
theorem rdigit_b (c : Int) (b : Bool) (h : digitC c = b) (w : World) : Calls Tryd.prog 33 #[.int .u8 c] w fun e w' => e = .returned (.bool b) ∧ w = w' := by
  subst h; exact rdigit_any c w
theorem rdouble_b (a c : Int) (b : Bool) (h : decide (signSz a c = 2) = b) (w : World) : Calls Tryd.prog 44 #[.int .u8 a, .int .u8 c] w fun e w' => e = .returned (.bool b) ∧ w = w' := by
  subst h; exact rdouble_any a c w
theorem rsingle_b (c : Int) (b : Bool) (h : decide (signSz c 0 = 1) = b) (w : World) : Calls Tryd.prog 45 #[.int .u8 c] w fun e w' => e = .returned (.bool b) ∧ w = w' := by
  subst h; exact rsingle_any c w

/-- What one returns: the token with its place and the place behind it, or the error. -/
def OnePost (r : Int × FTok) (k : Nat) (w : World) (e : Ending) (w' : World) : Prop :=
  e = (if r.1 = 0 then .returned (.tuple #[tokV r.2.kind (strB r.2.text) r.2.value k, .int .i64 ((k + r.2.size : Nat) : Int), .int .i64 0]) else .returned (.tuple #[tokV 0 (strB []) 0 0, .int .i64 0, .int .i64 r.1])) ∧ Below w.heap.size w w'

/-- A run of word bytes up to j. -/
def InName (s : ByteArray) (k j : Nat) : Prop := k < j ∧ j ≤ s.size ∧ nameSz (s.data.toList.drop j) + j = nameSz (s.data.toList.drop k) + k
theorem inName_next {s : ByteArray} {k j : Nat} (h : InName s k j) (hj : j < s.size) (hc : wordC s[j].toNat = true) : InName s k (j + 1) := by
  obtain ⟨h1, h2, h3⟩ := h
  refine ⟨by omega, by omega, ?_⟩
  rw [drop_get s j hj, nameSz, if_pos hc] at h3
  omega
theorem inName_stop {s : ByteArray} {k j : Nat} (h : InName s k j) (hj : ∀ hj : j < s.size, wordC s[j].toNat = false) : j = k + nameSz (s.data.toList.drop k) := by
  obtain ⟨h1, h2, h3⟩ := h
  by_cases hlt : j < s.size
  · rw [drop_get s j hlt, nameSz, if_neg (by simp [hj hlt])] at h3; omega
  · have e : s.data.toList.drop j = [] := List.drop_eq_nil_of_le (by simp; omega)
    rw [e, nameSz] at h3; omega
theorem inName_start {s : ByteArray} {k : Nat} (hk : k < s.size) (hc : letterC s[k].toNat = true) : InName s k (k + 1) := by
  refine ⟨by omega, by omega, ?_⟩
  rw [drop_get s k hk, nameSz, if_pos (by unfold wordC; rw [hc]; rfl)]
  omega
theorem word_no {c : Int} (h1 : letterC c = false) (h2 : digitC c = false) : wordC c = false := by unfold wordC; rw [h1, h2]; rfl
theorem word_letter {c : Int} (h1 : letterC c = true) : wordC c = true := by unfold wordC; rw [h1]; rfl
theorem word_digit {c : Int} (h1 : digitC c = true) : wordC c = true := by unfold wordC; rw [h1]; exact Bool.or_true _

set_option maxHeartbeats 1000000 in
set_option maxRecDepth 100000 in
theorem rone_name (s : ByteArray) (k : Nat) (hk : k < s.size) (hs : s.size ≤ 4096) (hl : letterC s[k].toNat = true) (w : World) (h16 : nameSz (s.data.toList.drop k) ≤ 16) :
    Calls Tryd.prog 29 #[.string s, .int .i64 k] w fun e w' => e = .returned (.tuple #[tokV 1 (s.extract k (k + nameSz (s.data.toList.drop k))) 0 k, .int .i64 ((k + nameSz (s.data.toList.drop k) : Nat) : Int), .int .i64 0]) ∧ Below w.heap.size w w' := by
  have HS := Lib.hid (inName_start hk hl)
  have HL := Lib.hid hl
  obtain ⟨n, hn⟩ : ∃ n, nameSz (s.data.toList.drop k) = n := ⟨_, rfl⟩
  rw [hn] at h16 ⊢
  have HN := Lib.hid hn
  clear hl hn
  go_enter Tryd.func29, Tryd.ntmps29
  go_wp2_with (go_at_call 32; refine (rletter_b _ _ HL.out _).mono ?_; rintro e w' ⟨rfl, rfl⟩)
  go_loop [8] (fun i => ∃ j : Nat, i = .int .i64 j ∧ InName s k j) (fun i => s.size - (intOf i).toNat)
  case atStart => exact ⟨k + 1, by go_num, HS.out⟩
  case round =>
    obtain ⟨j, rfl, hI⟩ := hrel
    have hj2 := hI.2.1
    have hj1 := hI.1
    have HI := Lib.hid hI
    clear hI
    have fin : Hid (∀ j : Nat, j = k + n → ∀ v : Value, v = .tuple #[tokV 1 (s.extract k j) 0 k, .int .i64 j, .int .i64 0] → Ending.returned v = .returned (.tuple #[tokV 1 (s.extract k (k + n)) 0 k, .int .i64 ((k + n : Nat) : Int), .int .i64 0]) ∧ Below w.heap.size w (w.alloc (.cells #[.int .i64 1, .string (s.extract k j), .int .i64 0, .int .i64 k] 38))) := by
      rintro j rfl v rfl
      exact ⟨rfl, (Below.refl _ _).alloc (Nat.le_refl _) _⟩
    by_cases hlt : j < s.size
    · by_cases hl : letterC s[j].toNat = true
      · have HT := Lib.hid hl
        have HP := Lib.hid (inName_next HI.out hlt (word_letter hl))
        clear hl
        go_wp2_with (go_at_call 32; refine (rletter_b _ _ HT.out _).mono ?_; rintro e w' ⟨rfl, rfl⟩)
        go_round
        case rel => exact ⟨j + 1, by go_num, HP.out⟩
        case measure => simp [intOf]; omega
      · have HT := hid_false hl
        clear hl
        by_cases hd : digitC s[j].toNat = true
        · have HD := Lib.hid hd
          have HP := Lib.hid (inName_next HI.out hlt (word_digit hd))
          clear hd
          go_wp2_with (first | (go_at_call 32; refine (rletter_b _ _ HT.out _).mono ?_; rintro e w' ⟨rfl, rfl⟩) | (go_at_call 33; refine (rdigit_b _ _ HD.out _).mono ?_; rintro e w' ⟨rfl, rfl⟩))
          go_round
          case rel => exact ⟨j + 1, by go_num, HP.out⟩
          case measure => simp [intOf]; omega
        · have HD := hid_false hd
          clear hd
          have hjn := inName_stop HI.out (fun _ => word_no HT.out HD.out)
          rw [HN.out] at hjn
          have h16j : j ≤ k + 16 := by omega
          have HJ := Lib.hid hjn
          clear hjn
          go_wp2_with (first | (go_at_call 32; refine (rletter_b _ _ HT.out _).mono ?_; rintro e w' ⟨rfl, rfl⟩) | (go_at_call 33; refine (rdigit_b _ _ HD.out _).mono ?_; rintro e w' ⟨rfl, rfl⟩))
          exact bodyPost_ret (v := .tuple #[tokV 1 (s.extract k j) 0 k, .int .i64 j, .int .i64 0]) (by simp [results, Tryd.results29, go_sem]) rfl (fin.out j HJ.out _ rfl)
    · have hjn := inName_stop HI.out (fun h => absurd h hlt)
      rw [HN.out] at hjn
      have h16j : j ≤ k + 16 := by omega
      have HJ := Lib.hid hjn
      clear hjn
      go_wp2
      exact bodyPost_ret (v := .tuple #[tokV 1 (s.extract k j) 0 k, .int .i64 j, .int .i64 0]) (by simp [results, Tryd.results29, go_sem]) rfl (fin.out j HJ.out _ rfl)
set_option maxHeartbeats 1000000 in
set_option maxRecDepth 100000 in
theorem rone_long (s : ByteArray) (k : Nat) (hk : k < s.size) (hs : s.size ≤ 4096) (hl : letterC s[k].toNat = true) (w : World) (h16 : 16 < nameSz (s.data.toList.drop k)) :
    Calls Tryd.prog 29 #[.string s, .int .i64 k] w fun e w' => e = .returned (.tuple #[tokV 0 (strB []) 0 0, .int .i64 0, .int .i64 5]) ∧ Below w.heap.size w w' := by
  have HS := Lib.hid (inName_start hk hl)
  have HL := Lib.hid hl
  obtain ⟨n, hn⟩ : ∃ n, nameSz (s.data.toList.drop k) = n := ⟨_, rfl⟩
  rw [hn] at h16
  have HN := Lib.hid hn
  clear hl hn
  go_enter Tryd.func29, Tryd.ntmps29
  go_wp2_with (go_at_call 32; refine (rletter_b _ _ HL.out _).mono ?_; rintro e w' ⟨rfl, rfl⟩)
  go_loop [8] (fun i => ∃ j : Nat, i = .int .i64 j ∧ InName s k j) (fun i => s.size - (intOf i).toNat)
  case atStart => exact ⟨k + 1, by go_num, HS.out⟩
  case round =>
    obtain ⟨j, rfl, hI⟩ := hrel
    have hj2 := hI.2.1
    have hj1 := hI.1
    have HI := Lib.hid hI
    clear hI
    by_cases hlt : j < s.size
    · by_cases hl : letterC s[j].toNat = true
      · have HT := Lib.hid hl
        have HP := Lib.hid (inName_next HI.out hlt (word_letter hl))
        clear hl
        go_wp2_with (go_at_call 32; refine (rletter_b _ _ HT.out _).mono ?_; rintro e w' ⟨rfl, rfl⟩)
        go_round
        case rel => exact ⟨j + 1, by go_num, HP.out⟩
        case measure => simp [intOf]; omega
      · have HT := hid_false hl
        clear hl
        by_cases hd : digitC s[j].toNat = true
        · have HD := Lib.hid hd
          have HP := Lib.hid (inName_next HI.out hlt (word_digit hd))
          clear hd
          go_wp2_with (first | (go_at_call 32; refine (rletter_b _ _ HT.out _).mono ?_; rintro e w' ⟨rfl, rfl⟩) | (go_at_call 33; refine (rdigit_b _ _ HD.out _).mono ?_; rintro e w' ⟨rfl, rfl⟩))
          go_round
          case rel => exact ⟨j + 1, by go_num, HP.out⟩
          case measure => simp [intOf]; omega
        · have HD := hid_false hd
          clear hd
          have hjn := inName_stop HI.out (fun _ => word_no HT.out HD.out)
          rw [HN.out] at hjn
          have h16j : k + 16 < j := by omega
          clear hjn
          go_wp2_with (first | (go_at_call 32; refine (rletter_b _ _ HT.out _).mono ?_; rintro e w' ⟨rfl, rfl⟩) | (go_at_call 33; refine (rdigit_b _ _ HD.out _).mono ?_; rintro e w' ⟨rfl, rfl⟩))
          exact bodyPost_ret (v := .tuple #[tokV 0 (strB []) 0 0, .int .i64 0, .int .i64 5]) (by simp [results, Tryd.results29, go_sem, strB]) rfl ⟨rfl, (Below.refl _ _).alloc (Nat.le_refl _) _⟩
    · have hjn := inName_stop HI.out (fun h => absurd h hlt)
      rw [HN.out] at hjn
      have h16j : k + 16 < j := by omega
      clear hjn
      go_wp2
      exact bodyPost_ret (v := .tuple #[tokV 0 (strB []) 0 0, .int .i64 0, .int .i64 5]) (by simp [results, Tryd.results29, go_sem, strB]) rfl ⟨rfl, (Below.refl _ _).alloc (Nat.le_refl _) _⟩

/-- A run of digits up to j. -/
def InDig (s : ByteArray) (k j : Nat) : Prop := k < j ∧ j ≤ s.size ∧ digRun (s.data.toList.drop j) + j = digRun (s.data.toList.drop (k + 1)) + (k + 1)
theorem inDig_next {s : ByteArray} {k j : Nat} (h : InDig s k j) (hj : j < s.size) (hc : digitC s[j].toNat = true) : InDig s k (j + 1) := by
  obtain ⟨h1, h2, h3⟩ := h
  refine ⟨by omega, by omega, ?_⟩
  rw [drop_get s j hj, digRun, if_pos hc] at h3
  omega
theorem inDig_stop {s : ByteArray} {k j : Nat} (hk : k < s.size) (hz : (s[k].toNat : Int) ≠ 48) (h : InDig s k j) (hj : ∀ hj : j < s.size, digitC s[j].toNat = false) : j = k + numSz (s.data.toList.drop k) := by
  obtain ⟨h1, h2, h3⟩ := h
  rw [drop_get s k hk, numSz, if_neg hz]
  by_cases hlt : j < s.size
  · rw [drop_get s j hlt, digRun, if_neg (by simp [hj hlt])] at h3; omega
  · have e : s.data.toList.drop j = [] := List.drop_eq_nil_of_le (by simp; omega)
    rw [e, digRun] at h3; omega
theorem inDig_start {s : ByteArray} {k : Nat} (hk : k < s.size) : InDig s k (k + 1) := ⟨by omega, by omega, rfl⟩
theorem num_zero {s : ByteArray} {k : Nat} (hk : k < s.size) (hz : (s[k].toNat : Int) = 48) : k + 1 = k + numSz (s.data.toList.drop k) := by
  rw [drop_get s k hk, numSz, if_pos hz]

/-- What is known behind the digits. -/
def NumCut (s : ByteArray) (k : Nat) (w : World) (v : Value) (wx : World) : Prop :=
  ∃ j : Nat, v = .int .i64 j ∧ j = k + numSz (s.data.toList.drop k) ∧ wx = w.alloc (.cells #[.int .i64 0, .string ⟨#[]⟩, .int .i64 0, .int .i64 0] 38)

theorem bne_no {a b : Int} (h : (a != b) = false) : a = b := by simpa using h
theorem bne_yes {a b : Int} (h : (a != b) = true) : a ≠ b := by simpa using h

/-- What one returns of a number, by what is behind it and by its value. -/
theorem one_word {s : ByteArray} {k j : Nat} {w w' : World} (hk : k < s.size) (hd : digitC s[k].toNat = true) (hj : j = k + numSz (s.data.toList.drop k)) (hlt : j < s.size) (hw : wordC s[j].toNat = true) (hb : Below w.heap.size w w') :
    OnePost (firstS (s.data.toList.drop k)) k w (.returned (.tuple #[tokV 0 (strB []) 0 0, .int .i64 0, .int .i64 1])) w' := by
  have e : headWord ((s.data.toList.drop k).drop (numSz (s.data.toList.drop k))) = true := by rw [List.drop_drop, ← hj, head_drop s j hlt]; exact hw
  rw [firstS_digit (drop_get s k hk) hd, if_pos e]
  exact ⟨rfl, hb⟩
theorem one_num {s : ByteArray} {k j : Nat} {w w' : World} (hk : k < s.size) (hd : digitC s[k].toNat = true) (hj : j = k + numSz (s.data.toList.drop k)) (hw : NoWordAt s j) (hb : Below w.heap.size w w')
    (hv : decVal 0 (s.extract k j).data.toList < 9223372036854775808) :
    OnePost (firstS (s.data.toList.drop k)) k w (.returned (.tuple #[tokV 2 (strB []) (decVal 0 (s.extract k j).data.toList : Nat) k, .int .i64 j, .int .i64 0])) w' := by
  have e : ¬ headWord ((s.data.toList.drop k).drop (numSz (s.data.toList.drop k))) = true := by
    rw [List.drop_drop, ← hj]
    by_cases hlt : j < s.size
    · rw [head_drop s j hlt, hw hlt]; simp
    · rw [head_drop_end s j (by omega)]; simp
  have ex : (s.extract k j).data.toList = (s.data.toList.drop k).take (numSz (s.data.toList.drop k)) := by rw [Lib.extract_data]; congr 1; omega
  rw [ex] at hv ⊢
  rw [firstS_digit (drop_get s k hk) hd, if_neg e, if_pos hv, hj]
  exact ⟨rfl, hb⟩
theorem one_big {s : ByteArray} {k j : Nat} {w w' : World} (hk : k < s.size) (hd : digitC s[k].toNat = true) (hj : j = k + numSz (s.data.toList.drop k)) (hw : NoWordAt s j) (hb : Below w.heap.size w w')
    (hv : ¬ decVal 0 (s.extract k j).data.toList < 9223372036854775808) :
    OnePost (firstS (s.data.toList.drop k)) k w (.returned (.tuple #[tokV 0 (strB []) 0 0, .int .i64 0, .int .i64 3])) w' := by
  have e : ¬ headWord ((s.data.toList.drop k).drop (numSz (s.data.toList.drop k))) = true := by
    rw [List.drop_drop, ← hj]
    by_cases hlt : j < s.size
    · rw [head_drop s j hlt, hw hlt]; simp
    · rw [head_drop_end s j (by omega)]; simp
  have ex : (s.extract k j).data.toList = (s.data.toList.drop k).take (numSz (s.data.toList.drop k)) := by rw [Lib.extract_data]; congr 1; omega
  rw [ex] at hv
  rw [firstS_digit (drop_get s k hk) hd, if_neg e, if_neg hv]
  exact ⟨rfl, hb⟩
theorem num_all {s : ByteArray} {k j : Nat} (hk : k < s.size) (hd : digitC s[k].toNat = true) (hj : j = k + numSz (s.data.toList.drop k)) : allDig (s.extract k j).data.toList := by
  have ex : (s.extract k j).data.toList = (s.data.toList.drop k).take (numSz (s.data.toList.drop k)) := by rw [Lib.extract_data]; congr 1; omega
  rw [ex]
  refine allDig_num _ fun c r h => ?_
  have e := (drop_get s k hk).symm.trans h
  injection e with e1 _
  rw [← e1]; exact hd
theorem num_bd {s : ByteArray} {k j : Nat} (hk : k < s.size) (hj : j = k + numSz (s.data.toList.drop k)) : k < j ∧ j ≤ s.size := by
  have h1 := numSz_le (s.data.toList.drop k)
  have h2 := numSz_pos s[k] (s.data.toList.drop (k + 1))
  rw [← drop_get s k hk] at h2
  have hz : s.data.toList.length = s.size := by simp
  rw [List.length_drop, hz] at h1
  omega
theorem rnumber_ok (s : ByteArray) (w : World) (hs : s.size ≤ 9223372036854775806) (ha : allDig s.data.toList) (hv : decVal 0 s.data.toList < 9223372036854775808) :
    Calls Tryd.prog 43 #[.string s] w fun e w' => e = .returned (.tuple #[.int .i64 (decVal 0 s.data.toList : Nat), .bool true]) ∧ w = w' := by
  have h := rnumber_any s w hs ha
  unfold numEnd at h
  rwa [if_pos hv] at h
theorem rnumber_no (s : ByteArray) (w : World) (hs : s.size ≤ 9223372036854775806) (ha : allDig s.data.toList) (hv : ¬ decVal 0 s.data.toList < 9223372036854775808) :
    Calls Tryd.prog 43 #[.string s] w fun e w' => e = .returned (.tuple #[.int .i64 0, .bool false]) ∧ w = w' := by
  have h := rnumber_any s w hs ha
  unfold numEnd at h
  rwa [if_neg hv] at h

set_option maxHeartbeats 1000000 in
set_option maxRecDepth 100000 in
theorem rone_digit (s : ByteArray) (k : Nat) (hk : k < s.size) (hs : s.size ≤ 4096) (hl : letterC s[k].toNat = false) (hd : digitC s[k].toNat = true) (w : World) :
    Calls Tryd.prog 29 #[.string s, .int .i64 k] w (OnePost (firstS (s.data.toList.drop k)) k w) := by
  have HL := Lib.hid hl
  have HD := Lib.hid hd
  clear hl hd
  have HK := Lib.hid (num_zero hk)
  have HI0 := Lib.hid (inDig_start hk)
  have HST := Lib.hid (fun j => @inDig_stop s k j hk)
  go_enter Tryd.func29, Tryd.ntmps29
  go_upto_if 53 with (first | (go_at_call 32; refine (rletter_b _ _ HL.out _).mono ?_; rintro e w' ⟨rfl, rfl⟩) | (go_at_call 33; refine (rdigit_b _ _ HD.out _).mono ?_; rintro e w' ⟨rfl, rfl⟩))
  obtain ⟨bz, hbz⟩ : ∃ bz, ((s[k].toNat : Int) != 48) = bz := ⟨_, rfl⟩
  rw [hbz]
  have HBZ := Lib.hid hbz
  clear hbz
  go_cut [8] (NumCut s k w)
  case first =>
    cases bz with
    | false =>
      have HZ := Lib.hid (bne_no HBZ.out)
      clear HBZ
      go_wp2
      go_meet
      case rel => exact ⟨k + 1, by go_num, HK.out HZ.out, rfl⟩
    | true =>
      have HZ := Lib.hid (bne_yes HBZ.out)
      clear HBZ
      go_wp2
      go_loopg [8] (s.size - (k + 1)) (fun g i wx => ∃ j : Nat, i = .int .i64 j ∧ j + g = s.size ∧ InDig s k j ∧ wx = w.alloc (.cells #[.int .i64 0, .string ⟨#[]⟩, .int .i64 0, .int .i64 0] 38))
      case atStart => exact ⟨k + 1, by go_num, by omega, HI0.out, rfl⟩
      case round =>
        obtain ⟨j, rfl, hjg, hI, rfl⟩ := hrel
        have HG := Lib.hid hjg
        clear hjg
        have hj2 := hI.2.1
        have hj1 := hI.1
        have HI := Lib.hid hI
        clear hI
        by_cases hlt : j < s.size
        · by_cases hdj : digitC s[j].toNat = true
          · have HT := Lib.hid hdj
            have HP := Lib.hid (inDig_next HI.out hlt hdj)
            clear hdj
            go_wp2_with (go_at_call 33; refine (rdigit_b _ _ HT.out _).mono ?_; rintro e w' ⟨rfl, rfl⟩)
            go_roundg (s.size - (j + 1))
            case rel => exact ⟨j + 1, by go_num, by omega, HP.out, rfl⟩
            case measure => have := HG.out; omega
          · have HT := hid_false hdj
            clear hdj
            have HP := Lib.hid (HST.out j HZ.out HI.out (fun _ => HT.out))
            go_wp2_with (go_at_call 33; refine (rdigit_b _ _ HT.out _).mono ?_; rintro e w' ⟨rfl, rfl⟩)
            go_meet
            case rel => exact ⟨j, rfl, HP.out, rfl⟩
        · have HP := Lib.hid (HST.out j HZ.out HI.out (fun h => absurd h hlt))
          go_wp2
          go_meet
          case rel => exact ⟨j, rfl, HP.out, rfl⟩
  case rest =>
    obtain ⟨j, rfl, hj, rfl⟩ := hcut
    obtain ⟨hj1, hj2⟩ := num_bd hk hj
    have HJ := Lib.hid hj
    have HALL := Lib.hid (num_all hk HD.out hj)
    have hsz : (s.extract k j).size ≤ 9223372036854775806 := by simp; omega
    clear hj
    have HW := Lib.hid (fun (w' : World) (hlt : j < s.size) (hw : wordC s[j].toNat = true) (hb : Below w.heap.size w w') => one_word hk HD.out HJ.out hlt hw hb)
    have HNum := Lib.hid (fun (w' : World) (hw : NoWordAt s j) (hb : Below w.heap.size w w') => one_num hk HD.out HJ.out hw hb)
    have HBig := Lib.hid (fun (w' : World) (hw : NoWordAt s j) (hb : Below w.heap.size w w') => one_big hk HD.out HJ.out hw hb)
    by_cases hlt : j < s.size
    · by_cases hlj : letterC s[j].toNat = true
      · have HT := Lib.hid hlj
        clear hlj
        go_wp2_with (first | (go_at_call 32; refine (rletter_b _ _ HT.out _).mono ?_; rintro e w' ⟨rfl, rfl⟩))
        exact bodyPost_ret (v := .tuple #[tokV 0 (strB []) 0 0, .int .i64 0, .int .i64 1]) (by simp [results, Tryd.results29, go_sem, strB]) rfl (HW.out _ hlt (word_letter HT.out) ((Below.refl _ _).alloc (Nat.le_refl _) _))
      · have HT := hid_false hlj
        clear hlj
        by_cases hdj : digitC s[j].toNat = true
        · have HDJ := Lib.hid hdj
          clear hdj
          go_wp2_with (first | (go_at_call 32; refine (rletter_b _ _ HT.out _).mono ?_; rintro e w' ⟨rfl, rfl⟩) | (go_at_call 33; refine (rdigit_b _ _ HDJ.out _).mono ?_; rintro e w' ⟨rfl, rfl⟩))
          exact bodyPost_ret (v := .tuple #[tokV 0 (strB []) 0 0, .int .i64 0, .int .i64 1]) (by simp [results, Tryd.results29, go_sem, strB]) rfl (HW.out _ hlt (word_digit HDJ.out) ((Below.refl _ _).alloc (Nat.le_refl _) _))
        · have HDJ := hid_false hdj
          clear hdj
          have HNO : Hid (NoWordAt s j) := fun _ => word_no HT.out HDJ.out
          by_cases hv : decVal 0 (s.extract k j).data.toList < 9223372036854775808
          · have HV := Lib.hid hv
            clear hv
            go_wp2_with (first | (go_at_call 32; refine (rletter_b _ _ HT.out _).mono ?_; rintro e w' ⟨rfl, rfl⟩) | (go_at_call 33; refine (rdigit_b _ _ HDJ.out _).mono ?_; rintro e w' ⟨rfl, rfl⟩) | (go_at_call 43; refine (rnumber_ok _ _ hsz HALL.out HV.out).mono ?_; rintro e w' ⟨rfl, rfl⟩))
            exact bodyPost_ret (v := .tuple #[tokV 2 (strB []) (decVal 0 (s.extract k j).data.toList : Nat) k, .int .i64 j, .int .i64 0]) (by simp [results, Tryd.results29, go_sem, strB]) rfl (HNum.out _ HNO.out ((Below.refl _ _).alloc (Nat.le_refl _) _) HV.out)
          · have HV := Lib.hid hv
            clear hv
            go_wp2_with (first | (go_at_call 32; refine (rletter_b _ _ HT.out _).mono ?_; rintro e w' ⟨rfl, rfl⟩) | (go_at_call 33; refine (rdigit_b _ _ HDJ.out _).mono ?_; rintro e w' ⟨rfl, rfl⟩) | (go_at_call 43; refine (rnumber_no _ _ hsz HALL.out HV.out).mono ?_; rintro e w' ⟨rfl, rfl⟩))
            exact bodyPost_ret (v := .tuple #[tokV 0 (strB []) 0 0, .int .i64 0, .int .i64 3]) (by simp [results, Tryd.results29, go_sem, strB]) rfl (HBig.out _ HNO.out ((Below.refl _ _).alloc (Nat.le_refl _) _) HV.out)
    · have HNO : Hid (NoWordAt s j) := fun h => absurd h hlt
      by_cases hv : decVal 0 (s.extract k j).data.toList < 9223372036854775808
      · have HV := Lib.hid hv
        clear hv
        go_wp2_with (first | (go_at_call 43; refine (rnumber_ok _ _ hsz HALL.out HV.out).mono ?_; rintro e w' ⟨rfl, rfl⟩))
        exact bodyPost_ret (v := .tuple #[tokV 2 (strB []) (decVal 0 (s.extract k j).data.toList : Nat) k, .int .i64 j, .int .i64 0]) (by simp [results, Tryd.results29, go_sem, strB]) rfl (HNum.out _ HNO.out ((Below.refl _ _).alloc (Nat.le_refl _) _) HV.out)
      · have HV := Lib.hid hv
        clear hv
        go_wp2_with (first | (go_at_call 43; refine (rnumber_no _ _ hsz HALL.out HV.out).mono ?_; rintro e w' ⟨rfl, rfl⟩))
        exact bodyPost_ret (v := .tuple #[tokV 0 (strB []) 0 0, .int .i64 0, .int .i64 3]) (by simp [results, Tryd.results29, go_sem, strB]) rfl (HBig.out _ HNO.out ((Below.refl _ _).alloc (Nat.le_refl _) _) HV.out)
end Go.Proofs.YtaenmaokieomgaaDoor
