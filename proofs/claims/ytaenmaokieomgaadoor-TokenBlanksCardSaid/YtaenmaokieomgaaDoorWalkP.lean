/-
  What one and Scan of the document's answer return: the same as token.Scan. Conditions: as for token.Scan.
-/
import Derived.Test.YtaenmaokieomgaaDoorWalkO
namespace Go.Proofs.YtaenmaokieomgaaDoor
open Go.RowKit

theorem signSz_zero (a b : Int) (h : signSz a b ≠ 2) : signSz a b = signSz a 0 := by
  unfold signSz at h ⊢
  (repeat' split at h) <;> (repeat' split) <;> omega

theorem one_two {s : ByteArray} {k : Nat} {w w' : World} (hk : k < s.size) (hd : digitC s[k].toNat = false) (hl : letterC s[k].toNat = false) (hlt : k + 1 < s.size) (h2 : signSz s[k].toNat s[k + 1].toNat = 2) (hb : Below w.heap.size w w') :
    OnePost (firstS (s.data.toList.drop k)) k w (.returned (.tuple #[tokV 3 (s.extract k (k + 2)) 0 k, .int .i64 ((k : Int) + 1 + 1), .int .i64 0])) w' := by
  have e2 : secondB (s.data.toList.drop k) = s[k + 1].toNat := by rw [drop_get s k hk, drop_get s (k + 1) hlt]; rfl
  rw [firstS_sign (drop_get s k hk) hd hl, e2, h2]
  rw [if_neg (by decide)]
  refine ⟨?_, hb⟩
  have ex : s.extract k (k + 2) = strB ((s.data.toList.drop k).take 2) := by rw [Lib.extract_eq]; congr 2; congr 1; omega
  rw [ex, show ((k : Int) + 1 + 1) = ((k + 2 : Nat) : Int) by omega]
  rfl
theorem one_one {s : ByteArray} {k : Nat} {w w' : World} (hk : k < s.size) (hd : digitC s[k].toNat = false) (hl : letterC s[k].toNat = false) (h1 : signSz s[k].toNat (secondB (s.data.toList.drop k)) = 1) (hb : Below w.heap.size w w') :
    OnePost (firstS (s.data.toList.drop k)) k w (.returned (.tuple #[tokV 3 (s.extract k (k + 1)) 0 k, .int .i64 ((k : Int) + 1), .int .i64 0])) w' := by
  rw [firstS_sign (drop_get s k hk) hd hl, h1]
  rw [if_neg (by decide)]
  refine ⟨?_, hb⟩
  have ex : s.extract k (k + 1) = strB ((s.data.toList.drop k).take 1) := by rw [Lib.extract_eq]; congr 2; congr 1; omega
  rw [ex]
  rfl
theorem one_none {s : ByteArray} {k : Nat} {w w' : World} (hk : k < s.size) (hd : digitC s[k].toNat = false) (hl : letterC s[k].toNat = false) (h1 : signSz s[k].toNat (secondB (s.data.toList.drop k)) = 0) (hb : Below w.heap.size w w') :
    OnePost (firstS (s.data.toList.drop k)) k w (.returned (.tuple #[tokV 0 (strB []) 0 0, .int .i64 0, .int .i64 1])) w' := by
  rw [firstS_sign (drop_get s k hk) hd hl, if_pos h1]
  exact ⟨rfl, hb⟩
theorem second_at {s : ByteArray} {k : Nat} (hk : k < s.size) (hlt : k + 1 < s.size) : secondB (s.data.toList.drop k) = s[k + 1].toNat := by
  rw [drop_get s k hk, drop_get s (k + 1) hlt]; rfl
theorem second_end {s : ByteArray} {k : Nat} (hk : k < s.size) (hlt : ¬ k + 1 < s.size) : secondB (s.data.toList.drop k) = 0 := by
  have e : s.data.toList.drop (k + 1) = [] := List.drop_eq_nil_of_le (by simp; omega)
  rw [drop_get s k hk, e]; rfl

set_option maxHeartbeats 1000000 in
set_option maxRecDepth 100000 in
theorem rone_sign (s : ByteArray) (k : Nat) (hk : k < s.size) (hs : s.size ≤ 4096) (hl : letterC s[k].toNat = false) (hd : digitC s[k].toNat = false) (w : World) :
    Calls Tryd.prog 29 #[.string s, .int .i64 k] w (OnePost (firstS (s.data.toList.drop k)) k w) := by
  have HL := Lib.hid hl
  have HD := Lib.hid hd
  clear hl hd
  have hbd := signSz_bd s[k].toNat (secondB (s.data.toList.drop k))
  have hz0 := signSz_bd s[k].toNat 0
  by_cases hlt : k + 1 < s.size
  · have es := second_at hk hlt
    by_cases h2 : signSz s[k].toNat s[k + 1].toNat = 2
    · have HQ := Lib.hid (fun (w' : World) (hb : Below w.heap.size w w') => one_two hk HD.out HL.out hlt h2 hb)
      have H2 : Hid (decide (signSz s[k].toNat s[k + 1].toNat = 2) = true) := decide_eq_true h2
      clear h2 es hbd hz0
      go_enter Tryd.func29, Tryd.ntmps29
      go_wp2_with (first | (go_at_call 32; refine (rletter_b _ _ HL.out _).mono ?_; rintro e w' ⟨rfl, rfl⟩) | (go_at_call 33; refine (rdigit_b _ _ HD.out _).mono ?_; rintro e w' ⟨rfl, rfl⟩) | (go_at_call 44; refine (rdouble_b _ _ _ H2.out _).mono ?_; rintro e w' ⟨rfl, rfl⟩))
      exact bodyPost_ret (v := .tuple #[tokV 3 (s.extract k (k + 2)) 0 k, .int .i64 ((k : Int) + 1 + 1), .int .i64 0]) (by simp [results, Tryd.results29, go_sem]) rfl (HQ.out _ ((Below.refl _ _).alloc (Nat.le_refl _) _))
    · have h0 := signSz_zero _ _ h2
      have H2 : Hid (decide (signSz s[k].toNat s[k + 1].toNat = 2) = false) := decide_eq_false h2
      rw [← es] at h0 h2
      by_cases h1 : signSz s[k].toNat 0 = 1
      · have HQ := Lib.hid (fun (w' : World) (hb : Below w.heap.size w w') => one_one hk HD.out HL.out (h0.trans h1) hb)
        have H1 : Hid (decide (signSz s[k].toNat 0 = 1) = true) := decide_eq_true h1
        clear h2 es hbd hz0 h0 h1
        go_enter Tryd.func29, Tryd.ntmps29
        go_wp2_with (first | (go_at_call 32; refine (rletter_b _ _ HL.out _).mono ?_; rintro e w' ⟨rfl, rfl⟩) | (go_at_call 33; refine (rdigit_b _ _ HD.out _).mono ?_; rintro e w' ⟨rfl, rfl⟩) | (go_at_call 44; refine (rdouble_b _ _ _ H2.out _).mono ?_; rintro e w' ⟨rfl, rfl⟩) | (go_at_call 45; refine (rsingle_b _ _ H1.out _).mono ?_; rintro e w' ⟨rfl, rfl⟩))
        exact bodyPost_ret (v := .tuple #[tokV 3 (s.extract k (k + 1)) 0 k, .int .i64 ((k : Int) + 1), .int .i64 0]) (by simp [results, Tryd.results29, go_sem]) rfl (HQ.out _ ((Below.refl _ _).alloc (Nat.le_refl _) _))
      · have HQ := Lib.hid (fun (w' : World) (hb : Below w.heap.size w w') => one_none hk HD.out HL.out (by omega) hb)
        have H1 : Hid (decide (signSz s[k].toNat 0 = 1) = false) := decide_eq_false h1
        clear h2 es hbd hz0 h0 h1
        go_enter Tryd.func29, Tryd.ntmps29
        go_wp2_with (first | (go_at_call 32; refine (rletter_b _ _ HL.out _).mono ?_; rintro e w' ⟨rfl, rfl⟩) | (go_at_call 33; refine (rdigit_b _ _ HD.out _).mono ?_; rintro e w' ⟨rfl, rfl⟩) | (go_at_call 44; refine (rdouble_b _ _ _ H2.out _).mono ?_; rintro e w' ⟨rfl, rfl⟩) | (go_at_call 45; refine (rsingle_b _ _ H1.out _).mono ?_; rintro e w' ⟨rfl, rfl⟩))
        exact bodyPost_ret (v := .tuple #[tokV 0 (strB []) 0 0, .int .i64 0, .int .i64 1]) (by simp [results, Tryd.results29, go_sem, strB]) rfl (HQ.out _ ((Below.refl _ _).alloc (Nat.le_refl _) _))
  · have es := second_end hk hlt
    by_cases h1 : signSz s[k].toNat 0 = 1
    · have HQ := Lib.hid (fun (w' : World) (hb : Below w.heap.size w w') => one_one hk HD.out HL.out (by rw [es]; exact h1) hb)
      have H1 : Hid (decide (signSz s[k].toNat 0 = 1) = true) := decide_eq_true h1
      clear es hbd hz0 h1
      go_enter Tryd.func29, Tryd.ntmps29
      go_wp2_with (first | (go_at_call 32; refine (rletter_b _ _ HL.out _).mono ?_; rintro e w' ⟨rfl, rfl⟩) | (go_at_call 33; refine (rdigit_b _ _ HD.out _).mono ?_; rintro e w' ⟨rfl, rfl⟩) | (go_at_call 45; refine (rsingle_b _ _ H1.out _).mono ?_; rintro e w' ⟨rfl, rfl⟩))
      exact bodyPost_ret (v := .tuple #[tokV 3 (s.extract k (k + 1)) 0 k, .int .i64 ((k : Int) + 1), .int .i64 0]) (by simp [results, Tryd.results29, go_sem]) rfl (HQ.out _ ((Below.refl _ _).alloc (Nat.le_refl _) _))
    · have h0 : signSz s[k].toNat 0 ≠ 2 := fun h => signSz_two _ _ h rfl
      have HQ := Lib.hid (fun (w' : World) (hb : Below w.heap.size w w') => one_none hk HD.out HL.out (by rw [es]; omega) hb)
      have H1 : Hid (decide (signSz s[k].toNat 0 = 1) = false) := decide_eq_false h1
      clear es hbd hz0 h1 h0
      go_enter Tryd.func29, Tryd.ntmps29
      go_wp2_with (first | (go_at_call 32; refine (rletter_b _ _ HL.out _).mono ?_; rintro e w' ⟨rfl, rfl⟩) | (go_at_call 33; refine (rdigit_b _ _ HD.out _).mono ?_; rintro e w' ⟨rfl, rfl⟩) | (go_at_call 45; refine (rsingle_b _ _ H1.out _).mono ?_; rintro e w' ⟨rfl, rfl⟩))
      exact bodyPost_ret (v := .tuple #[tokV 0 (strB []) 0 0, .int .i64 0, .int .i64 1]) (by simp [results, Tryd.results29, go_sem, strB]) rfl (HQ.out _ ((Below.refl _ _).alloc (Nat.le_refl _) _))


theorem rone_any (s : ByteArray) (k : Nat) (hk : k < s.size) (hs : s.size ≤ 4096) (w : World) :
    Calls Tryd.prog 29 #[.string s, .int .i64 k] w (OnePost (firstS (s.data.toList.drop k)) k w) := by
  by_cases hl : letterC s[k].toNat = true
  · have hd : digitC s[k].toNat = false := by
      unfold letterC at hl
      unfold digitC
      simp at hl ⊢
      omega
    rw [firstS_name (drop_get s k hk) hd hl]
    by_cases h : nameSz (s.data.toList.drop k) ≤ 16
    · rw [if_pos h]
      refine (rone_name s k hk hs hl w h).mono fun e w' ⟨he, hb⟩ => ⟨?_, hb⟩
      have ex : s.extract k (k + nameSz (s.data.toList.drop k)) = strB ((s.data.toList.drop k).take (nameSz (s.data.toList.drop k))) := by rw [Lib.extract_eq]; congr 2; congr 1; omega
      rw [he, ex]
      rfl
    · rw [if_neg h]
      exact (rone_long s k hk hs hl w (by omega)).mono fun e w' ⟨he, hb⟩ => ⟨he, hb⟩
  · have hl' : letterC s[k].toNat = false := by simpa using hl
    by_cases hd : digitC s[k].toNat = true
    · exact rone_digit s k hk hs hl' hd w
    · exact rone_sign s k hk hs hl' (by simpa using hd) w

theorem rblank_b (c : Int) (b : Bool) (h : blankC c = b) (w : World) : Calls Tryd.prog 28 #[.int .u8 c] w fun e w' => e = .returned (.bool b) ∧ w = w' := by
  subst h; exact rblank_any c w

theorem rone_ok (s : ByteArray) (k : Nat) (hk : k < s.size) (hs : s.size ≤ 4096) (w : World) (kd v : Int) (tx : List UInt8) (n : Nat) (hr : firstS (s.data.toList.drop k) = (0, ⟨kd, tx, v, n⟩)) :
    Calls Tryd.prog 29 #[.string s, .int .i64 k] w fun e w' => e = .returned (.tuple #[.agg #[.int .i64 kd, .string (strB tx), .int .i64 v, .int .i64 k], .int .i64 ((k : Int) + n), .int .i64 0]) ∧ Below w.heap.size w w' := by
  have h := rone_any s k hk hs w
  rw [hr] at h
  refine h.mono fun e w' ⟨he, hb⟩ => ⟨?_, hb⟩
  rw [he, if_pos rfl]
  rw [Int.natCast_add]
theorem rone_err (s : ByteArray) (k : Nat) (hk : k < s.size) (hs : s.size ≤ 4096) (w : World) (er : Int) (ft : FTok) (hr : firstS (s.data.toList.drop k) = (er, ft)) (he : er ≠ 0) :
    Calls Tryd.prog 29 #[.string s, .int .i64 k] w fun e w' => e = .returned (.tuple #[.agg #[.int .i64 0, .string (strB []), .int .i64 0, .int .i64 0], .int .i64 0, .int .i64 er]) ∧ Below w.heap.size w w' := by
  have h := rone_any s k hk hs w
  rw [hr] at h
  refine h.mono fun e w' ⟨he', hb⟩ => ⟨?_, hb⟩
  rw [he', if_neg he]

set_option maxHeartbeats 1000000 in
set_option maxRecDepth 100000 in
theorem rscan_loop (s : ByteArray) (w : World) (hs : s.size ≤ 4096) :
    Calls Tryd.prog 13 #[.string s] w (ScanPost (scanL s.data.toList 0) w) := by
  obtain ⟨i0, hi, hz0, hz1, hz2⟩ := info_parts infoTok
  have hbig : decide ((4096 : Int) < (s.size : Int)) = false := by simp; omega
  go_enter Tryd.func13, Tryd.ntmps13
  go_wp2
  clear hbig
  go_loopg [5, 6] s.size (ScanHead s w)
  case atStart => exact ⟨0, [], by omega, rfl, by rw [appR_nil]; rfl, Nat.le_refl _, World.ownsRow_nil _ _ _ _, Below.refl _ _⟩
  case round =>
    obtain ⟨k, acc, hkg, rfl, hR, hl, ho, hB⟩ := hrel
    have HX : Hid (appR acc (scanL (s.data.toList.drop k) k) = scanL s.data.toList 0) := hR
    clear hR
    cases gk with
    | zero =>
      have HH := Lib.hid (scan_end (by omega) HX.out ho hB)
      have hge : s.size ≤ k := by omega
      clear ho hB HX hkg
      go_wp2
      go_ret3
      exact HH.out
    | succ g =>
      have hlt : k < s.size := by omega
      by_cases hb : blankC s[k].toNat = true
      · have HH : Hid (∀ g, k + (g + 1) = s.size → ScanHead s w g _ (.int .i64 ((k + 1 : Nat) : Int)) wr) := fun g hg => head_blank hg hlt hb HX.out hl ho hB
        have HB : Hid (blankC s[k].toNat = true) := hb
        have HG : Hid (k + (g + 1) = s.size) := hkg
        clear hb ho hB HX hkg
        go_wp2_with (go_at_call 28; refine (rblank_b _ _ HB.out _).mono ?_; rintro e w' ⟨rfl, rfl⟩)
        go_roundg g
        case rel => exact HH.out g HG.out
        case measure => omega
      · have HB : Hid (blankC s[k].toNat = false) := hid_false hb
        clear hb
        by_cases hc : (s[k].toNat : Int) = 35
        · have hcb : ((s[k].toNat : Int) == 35) = true := by simpa using hc
          have HG : Hid (k + (g + 1) = s.size) := hkg
          have HJ := Lib.hid (fun (j : Nat) => head_com (j := j) hlt HB.out hc HX.out hl ho hB)
          clear hc hkg ho hB HX
          obtain ⟨wo, rfl⟩ : ∃ wo : World, wo = wr := ⟨_, rfl⟩
          go_wp2_with (go_at_call 28; refine (rblank_b _ _ HB.out _).mono ?_; rintro e w' ⟨rfl, rfl⟩)
          go_loopg [6] (s.size - k) (fun g' i wx => ∃ j : Nat, j + g' = s.size ∧ i = .int .i64 j ∧ InCom s k j ∧ wx = wo)
          case atStart => exact ⟨k, by omega, rfl, ⟨Nat.le_refl _, by omega, rfl⟩, rfl⟩
          case round =>
            obtain ⟨j, hjg, rfl, hI, rfl⟩ := hrel
            cases gk with
            | zero =>
              have hge : s.size ≤ j := by omega
              have HP := Lib.hid (HJ.out j hI (fun h => by omega))
              clear hI hjg
              go_wp2
              go_roundg (s.size - j)
              case rel => exact HP.out.2
              case measure => have := HP.out.1; have := HG.out; omega
            | succ g2 =>
              have hlj : j < s.size := by omega
              have HJG := Lib.hid hjg
              by_cases h10 : (s[j].toNat : Int) = 10
              · have htb : ((s[j].toNat : Int) != 10) = false := by simpa using h10
                have HP := Lib.hid (HJ.out j hI (fun _ => h10))
                clear hI hjg h10
                go_wp2
                go_roundg (s.size - j)
                case rel => exact HP.out.2
                case measure => have := HP.out.1; have := HG.out; omega
              · have htb : ((s[j].toNat : Int) != 10) = true := by simpa using h10
                have HP := Lib.hid (inCom_next hI hlj h10)
                clear hI hjg h10
                go_wp2
                go_roundg g2
                case rel => exact ⟨j + 1, by have := HJG.out; omega, by go_num, HP.out, rfl⟩
                case measure => omega
        · have hcb : ((s[k].toNat : Int) == 35) = false := by simpa using hc
          have HC : Hid ((s[k].toNat : Int) ≠ 35) := hc
          clear hc
          obtain ⟨⟨er, ft⟩, hr⟩ : ∃ r, firstS (s.data.toList.drop k) = r := ⟨_, rfl⟩
          obtain ⟨kd, tx, v, n⟩ := ft
          have HR : Hid (firstS (s.data.toList.drop k) = (er, ⟨kd, tx, v, n⟩)) := hr
          have HG : Hid (k + (g + 1) = s.size) := hkg
          have HO := Lib.hid ho
          have HBw := Lib.hid hB
          clear hr hkg ho hB
          by_cases he : er = 0
          · subst he
            go_wp2_with (first | (go_at_call 28; refine (rblank_b _ _ HB.out _).mono ?_; rintro e w' ⟨rfl, rfl⟩) | (go_at_call 29; refine (rone_ok s k hlt hs _ _ _ _ _ HR.out).mono ?_; rintro e w1 ⟨rfl, hb1⟩; have HO1 := Lib.hid (own_below HO.out hb1); have HB1 := Lib.hid hb1; clear hb1) | (at_builtin; refine wpList_append_own _ rfl _ _ 23 rfl w.heap.size 38 i0 _ 4 40 Tryd.underlying23 hi hz0 hz1 hz2 rfl (by decide) _ _ _ rfl ((HO1.out.alloc _).alloc _) ⟨w1.heap.size + 1, 0, none⟩ 1 1 (Tok.cells ⟨kd, tx, v, k⟩) rfl rfl ?c1 ?c2 ?c3 ?c4 ?c5 ?_))
            case c1 =>
              have h := cells_new (w1.alloc (.cells #[.int .i64 kd, .string (strB tx), .int .i64 v, .int .i64 k] 38)) (.int .i64 kd) (.string (strB tx)) (.int .i64 v) (.int .i64 k) 38
              rw [World.size_alloc] at h
              exact h
            case c2 =>
              intro u hu
              simp only [Tok.cells, List.mem_cons, List.not_mem_nil, or_false] at hu
              rcases hu with rfl | rfl | rfl | rfl <;> rfl
            case c3 => unfold maxLen; omega
            case c4 => omega
            case c5 =>
              have h1 := HBw.out.size
              have h2 := HB1.out.size
              simp only [World.size_alloc]
              omega
            intro v' w2 hown' hgrow _
            have hB1 : Below w.heap.size w w1 := HBw.out.trans (HB1.out.mono HBw.out.size)
            have hB2 : Below w.heap.size w w2 := by
              refine ((hB1.alloc hB1.size _).alloc (hB1.alloc hB1.size _).size _).grown hgrow ((hB1.alloc hB1.size _).alloc (hB1.alloc hB1.size _).size _).size (fun k hk => (HO1.out.lt k hk).1)
            obtain ⟨hn0, hkn, HH0⟩ := head_tok HG.out hlt HB.out HC.out HR.out HX.out hl hown' hB2
            have HH := Lib.hid HH0
            clear HH0 hown' hgrow hB1 hB2
            go_wp2
            go_roundg (s.size - (k + n))
            case rel => have h := HH.out; rw [Int.natCast_add] at h; exact h
            case measure => have := HG.out; omega
          · have hne : (er != 0) = true := by simpa using he
            have HNE := Lib.hid he
            have HE := Lib.hid (fun (w' : World) (hb : Below w.heap.size w w') => scan_err hlt HB.out HC.out HR.out he HX.out hb)
            have HBc : Hid (∀ w' : World, Below wr.heap.size wr w' → Below w.heap.size w w') := fun w' h => HBw.out.trans (h.mono HBw.out.size)
            clear he HX
            go_wp2_with (first | (go_at_call 28; refine (rblank_b _ _ HB.out _).mono ?_; rintro e w' ⟨rfl, rfl⟩) | (go_at_call 29; refine (rone_err s k hlt hs _ _ _ HR.out HNE.out).mono ?_; rintro e w1 ⟨rfl, hb1⟩; have HB1 := Lib.hid hb1; clear hb1))
            go_ret3
            exact HE.out _ ((HBc.out _ HB1.out).alloc (HBc.out _ HB1.out).size _)

set_option maxHeartbeats 400000 in
theorem rscan_long (s : ByteArray) (w : World) (h : 4096 < s.size) :
    Calls Tryd.prog 13 #[.string s] w fun e w' => e = .returned (.tuple #[.slice none 0 0, .int .i64 0, .int .i64 5]) ∧ w = w' := by
  go_enter Tryd.func13, Tryd.ntmps13
  have hd : decide ((4096 : Int) < (s.size : Int)) = true := by simp; omega
  go_wp2
  go_ret3
  exact ⟨rfl, rfl⟩

theorem rscan_any (s : ByteArray) (w : World) : Calls Tryd.prog 13 #[.string s] w (ScanPost (scanS s.data.toList) w) := by
  have hz : s.data.toList.length = s.size := by simp
  unfold scanS
  by_cases h : 4096 < s.data.toList.length
  · rw [if_pos h]
    refine (rscan_long s w (by omega)).mono ?_
    rintro e w' ⟨rfl, rfl⟩
    exact ⟨_, rfl, World.ownsRow_nil _ _ _ _, Below.refl _ _⟩
  · rw [if_neg h]
    exact rscan_loop s w (by omega)

end Go.Proofs.YtaenmaokieomgaaDoor
