/-
  The walk of the law TokenBlanks. Condition: as for Scan; the choices are bytes that the call was given.
-/
import Derived.Test.YtaenmaokieomgaaDoorLawBack
import Derived.Test.YtaenmaokieomgaaDoorWalkCodes
namespace Go.Proofs.YtaenmaokieomgaaDoor
open Go.RowKit

/-- The seven blanks and comments of the law. -/
def blankS : Nat → List UInt8
  | 0 => [32]
  | 1 => [10]
  | 2 => [9, 32]
  | 3 => [32, 35, 32, 110, 111, 116, 101, 59, 32, 53, 32, 64, 10]
  | 4 => [13, 10]
  | 5 => [35, 10]
  | _ => [32, 32]

theorem blank_len (j : Nat) : (blankS j).length ≤ 13 ∧ (j = 0 → (blankS j).length = 1) ∧ blankS j ≠ [] := by
  unfold blankS
  split <;> simp
  assumption

theorem scan_nl (r : List UInt8) (k : Nat) : scanL (10 :: r) k = scanL r (k + 1) := scanL_blank k rfl rfl
theorem scan_com1 (r : List UInt8) (k : Nat) : scanL (35 :: 10 :: r) k = scanL r (k + 2) := by
  rw [scanL_com k rfl rfl rfl]
  have e : comSz (35 :: 10 :: r) = 1 := by simp [comSz]
  rw [e]
  exact scan_nl r (k + 1)
theorem scan_com2 (r : List UInt8) (k : Nat) : scanL (35 :: 32 :: 110 :: 111 :: 116 :: 101 :: 59 :: 32 :: 53 :: 32 :: 64 :: 10 :: r) k = scanL r (k + 12) := by
  rw [scanL_com k rfl rfl rfl]
  have e : comSz (35 :: 32 :: 110 :: 111 :: 116 :: 101 :: 59 :: 32 :: 53 :: 32 :: 64 :: 10 :: r) = 11 := by simp [comSz]
  rw [e]
  exact scan_nl r (k + 11)

theorem blank_passed (j : Nat) : Passed (blankS j) := by
  refine ⟨fun r => .inl ?_, fun r k => ?_⟩
  · unfold blankS
    split <;> simp [sepHd]
  · unfold blankS
    split
    · exact scanL_blank k rfl rfl
    · exact scanL_blank k rfl rfl
    · exact (scanL_blank k rfl rfl).trans (scanL_blank (k + 1) rfl rfl)
    · exact (scanL_blank k rfl rfl).trans (scan_com2 r (k + 1))
    · exact (scanL_blank k rfl rfl).trans (scanL_blank (k + 1) rfl rfl)
    · exact scan_com1 r k
    · exact (scanL_blank k rfl rfl).trans (scanL_blank (k + 1) rfl rfl)

theorem joinT_append : ∀ (a b : List (Tok × List UInt8)), joinT (a ++ b) = joinT a ++ joinT b
  | [], _ => rfl
  | (t, x) :: r, b => by rw [List.cons_append, joinT, joinT, joinT_append r b, List.append_assoc, List.append_assoc]

/-- The text that was put together so far. -/
structure Text (ts : List Tok) (S : ByteArray) (k fr u : Nat) : Prop where
  ex : ∃ (j : Nat) (L : List (Tok × List UInt8)), L.map (·.1) = ts.take k ∧ (∀ x ∈ L, ∃ i, x.2 = blankS i) ∧ S.data.toList = blankS j ++ joinT L
  len : S.size ≤ fr + (k + 1) + 12 * u
  ord : ∀ t, ts[k]? = some t → fr ≤ t.off

theorem strB_size (l : List UInt8) : (strB l).size = l.length := by
  show l.toArray.size = _
  simp

theorem Text.start {ts : List Tok} (j u : Nat) (h : u = 1 ∨ u = 0 ∧ j = 0) : Text ts (strB (blankS j)) 0 0 u := by
  refine ⟨⟨j, [], rfl, (fun x h => absurd h (by simp)), by simp [joinT, strB]⟩, ?_, fun _ _ => Nat.zero_le _⟩
  rw [strB_size]
  have h1 := blank_len j
  rcases h with rfl | ⟨rfl, rfl⟩
  · omega
  · have := h1.2.1 rfl; omega

theorem Text.step {l : List UInt8} {ts : List Tok} {S : ByteArray} {k fr u u' j : Nat} {t : Tok} (h : Text ts S k fr u) (hS : scanL l 0 = ⟨ts, 0, 0⟩) (ht : ts[k]? = some t) (hu : u' = u + 1 ∨ u' = u ∧ j = 0) :
    Text ts (S ++ (strB (itemT t.kind t.text t.value) ++ strB (blankS j))) (k + 1) (t.off + (itemT t.kind t.text t.value).length) u' := by
  obtain ⟨⟨j0, L, hL, hb, hs⟩, hlen, hord⟩ := h
  obtain ⟨_, _, _, _, _, g6, _⟩ := token_at hS ht
  refine ⟨⟨j0, L ++ [(t, blankS j)], ?_, ?_, ?_⟩, ?_, g6⟩
  · rw [List.map_append, hL, List.take_add_one, ht]; rfl
  · intro x hx
    rcases List.mem_append.1 hx with hx | hx
    · exact hb x hx
    · rw [List.mem_singleton] at hx
      exact ⟨j, by rw [hx]⟩
  · rw [joinT_append, ByteArray.data_append, ByteArray.data_append, Array.toList_append, Array.toList_append, hs]
    simp [strB, joinT]
  · rw [ByteArray.size_append, ByteArray.size_append, strB_size, strB_size]
    have h1 := blank_len j
    have h2 := hord t ht
    rcases hu with rfl | ⟨rfl, rfl⟩
    · omega
    · have := h1.2.1 rfl; omega

/-- The text is scanned to the same tokens. -/
theorem Text.scan {l : List UInt8} {ts : List Tok} {S : ByteArray} {n fr u : Nat} (h : Text ts S n fr u) (hS : scanL l 0 = ⟨ts, 0, 0⟩) (hn : ts.length = n) (hz : S.size ≤ 4096) :
    ∃ us, AgreeL ts us ∧ scanS S.data.toList = ⟨us, 0, 0⟩ := by
  obtain ⟨⟨j0, L, hL, hb, hs⟩, _, _⟩ := h
  have hw := wf_of_scan hS
  rw [← hn, List.take_length] at hL
  obtain ⟨us, ha, hu⟩ := scan_join L (blankS j0).length (fun x hx => ⟨hw _ (by rw [← hL]; exact List.mem_map.2 ⟨x, hx, rfl⟩), by obtain ⟨i, hi⟩ := hb x hx; rw [hi]; exact blank_passed i⟩)
    (fun x hx => by obtain ⟨i, hi⟩ := hb x (List.dropLast_subset L hx); rw [hi]; exact (blank_len i).2.2)
  rw [hL] at ha
  refine ⟨us, ha, ?_⟩
  have hz' : S.data.toList.length = S.size := by simp
  rw [scanS, if_neg (by omega), hs, (blank_passed j0).2, Nat.zero_add, hu]

/-- What stays while the text is put together. -/
structure BEnv (B : Nat) (w0 : World) (ts : List Tok) (b o bb cb : Nat) (A : Option Addr) (n c u : Nat) (w : World) : Prop where
  toks : ∀ (i : Nat) (t : Tok), ts[i]? = some t → b ≠ cb ∧ TokAt w b (o + i * 4) t
  blk : bb ≠ cb ∧ ∀ j, j < 7 → w.cell? ⟨bb, j, none⟩ = some (.string (strB (blankS j)))
  codes : CodesSt B w cb A n c u
  below : Below B w0 w
  lw : LW w

theorem BEnv.next {B b o bb cb n c u u' : Nat} {w0 w w' : World} {ts : List Tok} {A : Option Addr} (h : BEnv B w0 ts b o bb cb A n c u w) (hB : 3 ≤ B) (hc : CodesSt B w' cb A n c u') (hb : Below B w w') (ha : Apart cb w w') : BEnv B w0 ts b o bb cb A n c u' w' := by
  refine ⟨fun i t hi => ?_, ⟨h.blk.1, fun j hj => ?_⟩, hc, h.below.trans hb, h.lw.below hb hB⟩
  · obtain ⟨hbc, e0, e1, e2, e3⟩ := h.toks i t hi
    have hlt : b < w.heap.size := World.block_lt_of_cell? w _ e0
    exact ⟨hbc, (ha.cell ⟨b, _, none⟩ hbc hlt).trans e0, (ha.cell ⟨b, _, none⟩ hbc hlt).trans e1, (ha.cell ⟨b, _, none⟩ hbc hlt).trans e2, (ha.cell ⟨b, _, none⟩ hbc hlt).trans e3⟩
  · exact (ha.cell ⟨bb, _, none⟩ h.blk.1 (World.block_lt_of_cell? w _ (h.blk.2 j hj))).trans (h.blk.2 j hj)

theorem BEnv.step {B b o bb cb n c u : Nat} {w0 w w' : World} {ts : List Tok} {A : Option Addr} (h : BEnv B w0 ts b o bb cb A n c u w) (hB : 3 ≤ B) (hb : Below w.heap.size w w') : BEnv B w0 ts b o bb cb A n c u w' :=
  h.next hB (h.codes.below hb) (hb.mono (Nat.le_trans h.codes.hB (Nat.le_of_lt h.codes.lt))) (Apart.below hb)
theorem BEnv.start {B b o cb n c : Nat} {w0 w : World} {ts : List Tok} {A : Option Addr} (ht : ∀ (i : Nat) (t : Tok), ts[i]? = some t → b ≠ cb ∧ TokAt w b (o + i * 4) t) (hc : CodesSt B w cb A n c 0) (hb : Below B w0 w) (hl : LW w) :
    BEnv B w0 ts b o w.heap.size cb A n c 0 (w.alloc (.cells #[.string ⟨#[32]⟩, .string ⟨#[10]⟩, .string ⟨#[9, 32]⟩, .string ⟨#[32, 35, 32, 110, 111, 116, 101, 59, 32, 53, 32, 64, 10]⟩, .string ⟨#[13, 10]⟩, .string ⟨#[35, 10]⟩, .string ⟨#[32, 32]⟩] 9)) := by
  have hh := (Go.MapKept.heap_alloc w (.cells #[.string ⟨#[32]⟩, .string ⟨#[10]⟩, .string ⟨#[9, 32]⟩, .string ⟨#[32, 35, 32, 110, 111, 116, 101, 59, 32, 53, 32, 64, 10]⟩, .string ⟨#[13, 10]⟩, .string ⟨#[35, 10]⟩, .string ⟨#[32, 32]⟩] 9)).1
  have hb1 := (Below.refl w.heap.size w).alloc (Nat.le_refl _) (.cells #[.string ⟨#[32]⟩, .string ⟨#[10]⟩, .string ⟨#[9, 32]⟩, .string ⟨#[32, 35, 32, 110, 111, 116, 101, 59, 32, 53, 32, 64, 10]⟩, .string ⟨#[13, 10]⟩, .string ⟨#[35, 10]⟩, .string ⟨#[32, 32]⟩] 9)
  have hlt := hc.lt
  refine ⟨fun i t hi => ?_, ⟨by omega, fun j hj => ?_⟩, hc.below hb1, hb.trans (hb1.mono (Nat.le_trans hc.hB (Nat.le_of_lt hlt))), hl.below hb1 hl.big⟩
  · obtain ⟨hbc, e0, e1, e2, e3⟩ := ht i t hi
    have hlt : b < w.heap.size := World.block_lt_of_cell? w _ e0
    exact ⟨hbc, (hb1.cell (p := ⟨b, _, none⟩) hlt).trans e0, (hb1.cell (p := ⟨b, _, none⟩) hlt).trans e1, (hb1.cell (p := ⟨b, _, none⟩) hlt).trans e2, (hb1.cell (p := ⟨b, _, none⟩) hlt).trans e3⟩
  · rw [Lib.cell_of_heap hh]
    match j, hj with
    | 0, _ => rfl
    | 1, _ => rfl
    | 2, _ => rfl
    | 3, _ => rfl
    | 4, _ => rfl
    | 5, _ => rfl
    | 6, _ => rfl

set_option maxHeartbeats 4000000 in
set_option maxRecDepth 100000 in
theorem tokenBlanks_ok (s : ByteArray) (v : Value) (w : World) (hv : BytesIn w.heap.size w v) (hL : LW w) (ts : List Tok) (hR : scanS s.data.toList = ⟨ts, 0, 0⟩) (hS : scanL s.data.toList 0 = ⟨ts, 0, 0⟩) (hsz : s.size ≤ 400) :
    Calls Tryd.prog 7 #[.string s, v] w fun e w' => e = .returned (.bool true) ∧ Below w.heap.size w w' := by
  have hn : ts.length ≤ s.size := by have := (scanS_len s.data.toList).2; rw [hR] at this; simpa using this
  have HR := Lib.hid hR
  have HS := Lib.hid hS
  have HL := Lib.hid hL
  have HV := Lib.hid hv
  clear hR hS hL hv
  obtain ⟨n, hnn⟩ : ∃ n, ts.length = n := ⟨_, rfl⟩
  have HN := Lib.hid hnn
  have q0 : decide ((400 : Int) < (s.size : Int)) = false := decide_eq_false (by omega)
  have q0' : decide (400 < s.size) = false := decide_eq_false (by omega)
  go_enter Tryd.func7, Tryd.ntmps7
  go_wp2_with (go_at_call 11; refine (awake_any _ HL.out).mono ?_; rintro e w1 ⟨rfl, hb⟩; have HB1 := Lib.hid hb; have HL1 := Lib.hid (HL.out.below hb HL.out.big); clear hb)
  go_wp2_with fail
  refine (scan_at s _ HL1.out _ HR.out).mono ?_
  rintro e w2 ⟨vt, rfl, hs, hb⟩
  have HB2 := Lib.hid (HB1.out.trans (hb.mono HB1.out.size))
  have HL2 := Lib.hid (HL1.out.below hb HL1.out.big)
  obtain ⟨A, c, rfl, hcap, hcells⟩ := hs
  have HC := Lib.hid hcells
  clear hb hcells
  simp only [hnn] at hn hcap ⊢
  clear hnn
  go_wp2_with fail
  refine (new_any w.heap.size v 200 _ (HV.out.below HB2.out) HB2.out.size (by omega)).mono ?_
  rintro e w3 ⟨cb, CA, cn, cc, rfl, hcn, hcs, hcb, hb⟩
  have HB3 := Lib.hid (HB2.out.trans (hb.mono HB2.out.size))
  have HL3 := Lib.hid (HL2.out.below hb HL2.out.big)
  have HX3 := Lib.hid hb
  have HCS := Lib.hid hcs
  clear hb hcs
  go_wp2_with fail
  obtain ⟨b, o, hA, ht3⟩ : ∃ b o, (ts ≠ [] → A = some ⟨b, o, none⟩) ∧ ∀ (i : Nat) (t : Tok), ts[i]? = some t → b ≠ cb ∧ TokAt w3 b (o + i * 4) t := by
    by_cases h0 : ts = []
    · exact ⟨0, 0, fun h => absurd h0 h, fun i t hi => by rw [h0] at hi; simp at hi⟩
    · obtain ⟨b, o, hA, hcs⟩ := HC.out h0
      refine ⟨b, o, fun _ => hA, fun i t hi => ?_⟩
      obtain ⟨e0, e1, e2, e3⟩ := hcs i t hi
      have hlt : b < w2.heap.size := World.block_lt_of_cell? w2 _ e0
      exact ⟨by omega, (HX3.out.cell (p := ⟨b, _, none⟩) hlt).trans e0, (HX3.out.cell (p := ⟨b, _, none⟩) hlt).trans e1, (HX3.out.cell (p := ⟨b, _, none⟩) hlt).trans e2, (HX3.out.cell (p := ⟨b, _, none⟩) hlt).trans e3⟩
  have HA := Lib.hid hA
  have HE := Lib.hid (BEnv.start ht3 HCS.out HB3.out HL3.out)
  clear hA ht3 HC HX3 HCS HL2 HL1 HB1 HB2 HL3 HB3 hcb
  have HG := HL.out.big
  generalize w3.alloc _ = w4 at HE ⊢
  generalize w3.heap.size = bb at HE ⊢
  refine (next_st _ cb 7 CA cn cc 0 w4 HE.out.codes (by omega) (by omega)).mono ?_
  rintro e w5 ⟨j, u, hj, rfl, hu, hc5, hb5, ha5⟩
  have HE5 := Lib.hid (HE.out.next HG hc5 hb5 ha5)
  have HT5 := Lib.hid (Text.start (ts := ts) j u (by rcases hu with h | h; exact .inl (by omega); exact .inr h))
  have cB := HE5.out.blk.2 j hj
  clear hc5 hb5 ha5 HE hu
  have hj2 : (j : Int) < 7 := by omega
  go_wp2_with fail
  clear cB
  go_loopg [10, 40] n (fun g sv iv wx => ∃ (S : ByteArray) (k fr u : Nat), k + g = n ∧ iv = .int .i64 k ∧ sv = .string S ∧ fr ≤ s.size ∧ Text ts S k fr u ∧ BEnv w.heap.size w ts b o bb cb CA cn cc u wx)
  case atStart => exact ⟨_, 0, 0, u, by omega, rfl, rfl, Nat.zero_le _, HT5.out, HE5.out⟩
  case round =>
    obtain ⟨S, k, fr, u, hkg, rfl, rfl, hfr, hT, hE⟩ := hrel
    have HK := Lib.hid hkg
    have HT := Lib.hid hT
    have HE := Lib.hid hE
    have hu := hE.codes.hk
    have hSz : S.size ≤ 3201 := by have := hT.len; omega
    clear hkg hT hE
    cases gk with
    | zero =>
      have hge : n ≤ k := by have := HK.out; omega
      have hge2 : ¬ k < n := by omega
      obtain rfl : k = n := by have := HK.out; omega
      obtain ⟨us, ha, hus⟩ := HT.out.scan HS.out HN.out (by omega)
      have HSA := Lib.hid (fun (v v' : Value) (w : World) (h1 : TokSlice w v ts) (h2 : TokSlice w v' us) => rsame_any v v' ts us w (by have := HN.out; omega) (agree_len ha) h1 h2 (fun i t u h k => agree_at ha i t u h k))
      have HUS := Lib.hid hus
      clear ha hus
      go_wp2_with fail
      refine (scan_at S _ HE.out.lw _ HUS.out).mono ?_
      rintro e w6 ⟨v', rfl, hs, hb⟩
      have HE6 := Lib.hid (HE.out.step HG hb)
      have HU6 := Lib.hid hs
      have HT6 := Lib.hid (show TokSlice w6 (.slice A k c) ts from ⟨A, c, by rw [HN.out], by have := HN.out; omega, fun h => ⟨b, o, HA.out h, fun i t hi => (HE6.out.toks i t hi).2⟩⟩)
      clear hb hs
      go_wp2_with fail
      refine (HSA.out _ v' _ HT6.out HU6.out).mono ?_
      rintro e w7 ⟨rfl, m, rfl⟩
      go_wp2
      go_ret
      exact ⟨rfl, below_drewN HE6.out.below _⟩
    | succ g =>
      have hlt : k < n := by have := HK.out; omega
      have hne : ts ≠ [] := fun h => by have := HN.out; rw [h] at this; simp at this; omega
      obtain rfl := HA.out hne
      obtain ⟨t, ht⟩ : ∃ t, ts[k]? = some t := ⟨_, List.getElem?_eq_getElem (by have := HN.out; omega)⟩
      obtain ⟨g1, g2, g3, _, _, g6, _⟩ := token_at HS.out ht
      have hval := scan_value HS.out ht
      have hsl : s.data.toList.length = s.size := by simp
      rw [hsl] at g2
      obtain ⟨y, hy⟩ : ∃ y, strB (itemT t.kind t.text t.value) = y := ⟨_, rfl⟩
      have hys : y.size = (itemT t.kind t.text t.value).length := by rw [← hy, strB_size]
      have HPR := Lib.hid (fun c' (hc : 1 ≤ c') => print_tok (c' := c') HE.out.lw (fun i t hi => (HE.out.toks i t hi).2) ht hc hval (by omega) hy)
      have HST := Lib.hid (fun (j u' : Nat) (hu' : u' = u + 1 ∨ u' = u ∧ j = 0) => hy ▸ HT.out.step HS.out ht hu')
      have hyz : y.size ≤ 400 := by omega
      clear g1 g3 g6 hval hsl hys hne hy ht
      go_wp2_with fail
      refine (HPR.out _ (by omega)).mono ?_
      rintro e w6 ⟨rfl, hb⟩
      have HE6 := Lib.hid (HE.out.step HG hb)
      clear hb
      go_wp2_with fail
      refine (next_st _ cb 7 CA cn cc u w6 HE6.out.codes (by omega) (by omega)).mono ?_
      rintro e w7 ⟨j, u', hj, rfl, hu', hc7, hb7, ha7⟩
      have HE7 := Lib.hid (HE6.out.next HG hc7 hb7 ha7)
      have HT7 := Lib.hid (HST.out j u' hu')
      have cB := HE7.out.blk.2 j hj
      have hj2 : (j : Int) < 7 := by omega
      have hbz : (strB (blankS j)).size ≤ 13 := by rw [strB_size]; exact (blank_len j).1
      clear hc7 hb7 ha7 hu'
      generalize strB (blankS j) = z at cB HT7 hbz ⊢
      go_wp2_with fail
      go_roundg g
      case rel => exact ⟨S ++ (y ++ z), k + 1, _, u', by have := HK.out; omega, by go_num, rfl, g2, HT7.out, HE7.out⟩
      case measure => omega

set_option maxHeartbeats 1000000 in
set_option maxRecDepth 100000 in
theorem tokenBlanks_long (s : ByteArray) (v : Value) (w : World) (hL : LW w) (R : ScanR) (hR : scanS s.data.toList = R) (hc : R.err ≠ 0 ∨ 400 < s.size) (hsz : s.size ≤ 140737488351232) :
    Calls Tryd.prog 7 #[.string s, v] w fun e w' => e = .returned (.bool true) ∧ Below w.heap.size w w' := by
  have HR := Lib.hid hR
  have HL := Lib.hid hL
  clear hR hL
  obtain ⟨ts, off, er⟩ := R
  simp only at hc
  have hs2 : s.size ≤ 9223372036854775807 := by omega
  by_cases he : er = 0
  · subst he
    have q0 : decide ((400 : Int) < (s.size : Int)) = true := decide_eq_true (by omega)
    have q0' : decide (400 < s.size) = true := decide_eq_true (by omega)
    go_enter Tryd.func7, Tryd.ntmps7
    go_wp2_with (go_at_call 11; refine (awake_any _ HL.out).mono ?_; rintro e w1 ⟨rfl, hb⟩; have HB1 := Lib.hid hb; have HL1 := Lib.hid (HL.out.below hb HL.out.big); clear hb)
    go_wp2_with fail
    refine (scan_at s _ HL1.out _ HR.out).mono ?_
    rintro e w2 ⟨vt, rfl, hs, hb⟩
    have HB2 := Lib.hid (HB1.out.trans (hb.mono HB1.out.size))
    clear hb hs
    go_wp2_with fail
    go_ret
    exact ⟨rfl, HB2.out⟩
  · have hne : (er != 0) = true := by simpa using he
    go_enter Tryd.func7, Tryd.ntmps7
    go_wp2_with (go_at_call 11; refine (awake_any _ HL.out).mono ?_; rintro e w1 ⟨rfl, hb⟩; have HB1 := Lib.hid hb; have HL1 := Lib.hid (HL.out.below hb HL.out.big); clear hb)
    go_wp2_with fail
    refine (scan_at s _ HL1.out _ HR.out).mono ?_
    rintro e w2 ⟨vt, rfl, hs, hb⟩
    have HB2 := Lib.hid (HB1.out.trans (hb.mono HB1.out.size))
    clear hb hs
    go_wp2_with fail
    go_ret
    exact ⟨rfl, HB2.out⟩

theorem tokenBlanks_any (s : ByteArray) (v : Value) (w : World) (hs : s.size ≤ 140737488351232) (hv : BytesIn w.heap.size w v) (hL : LW w) :
    Calls Tryd.prog 7 #[.string s, v] w fun e w' => e = .returned (.bool true) ∧ Below w.heap.size w w' := by
  have hsl : s.data.toList.length = s.size := by simp
  rcases scanS_cases s.data.toList with ⟨ts, h1, h2, h3⟩ | ⟨off, er, h1, h2, _⟩
  · by_cases hc : 400 < s.size
    · exact tokenBlanks_long s v w hL _ h1 (.inr hc) hs
    · exact tokenBlanks_ok s v w hv hL ts h1 h2 (by omega)
  · exact tokenBlanks_long s v w hL _ h1 (.inl h2) hs
end Go.Proofs.YtaenmaokieomgaaDoor
