/-
  The walk of the law TokenBack. Condition: as for Scan.
-/
import Derived.Test.YtaenmaokieomgaaDoorLawOffsets
import Derived.Test.YtaenmaokieomgaaDoorMathV
namespace Go.Proofs.YtaenmaokieomgaaDoor
open Go.RowKit

/-- The tokens of a printed text with what stands behind each. -/
def sepList : List Tok → List (Tok × List UInt8)
  | [] => []
  | [t] => [(t, [])]
  | t :: u :: r => (t, [32]) :: sepList (u :: r)

theorem sepList_fst : ∀ ts : List Tok, (sepList ts).map (·.1) = ts
  | [] => rfl
  | [_] => rfl
  | t :: u :: r => by rw [sepList, List.map_cons, sepList_fst (u :: r)]

theorem sepList_ne (u : Tok) (r : List Tok) : sepList (u :: r) ≠ [] := by
  cases r <;> simp [sepList]

theorem passed_nil : Passed [] := ⟨fun _ => .inr rfl, fun _ _ => rfl⟩
theorem passed_one : Passed [32] := ⟨fun _ => .inl (by simp [sepHd]), fun r k => scanL_blank k rfl rfl⟩

theorem sepList_mem : ∀ (ts : List Tok) (x : Tok × List UInt8), x ∈ sepList ts → x.1 ∈ ts ∧ Passed x.2
  | [], x, h => by simp [sepList] at h
  | [t], x, h => by
    simp only [sepList, List.mem_singleton] at h
    subst h
    exact ⟨List.mem_singleton.2 rfl, passed_nil⟩
  | t :: u :: r, x, h => by
    rw [sepList] at h
    rcases List.mem_cons.1 h with rfl | h
    · exact ⟨List.mem_cons_self, passed_one⟩
    · exact ⟨List.mem_cons_of_mem _ (sepList_mem (u :: r) x h).1, (sepList_mem (u :: r) x h).2⟩

theorem sepList_last : ∀ (ts : List Tok) (x : Tok × List UInt8), x ∈ (sepList ts).dropLast → x.2 ≠ []
  | [], x, h => by simp [sepList] at h
  | [t], x, h => by simp [sepList] at h
  | t :: u :: r, x, h => by
    rw [sepList, List.dropLast_cons_of_ne_nil (sepList_ne u r)] at h
    rcases List.mem_cons.1 h with rfl | h
    · simp
    · exact sepList_last (u :: r) x h

theorem printT_join : ∀ (ts : List Tok) (k : Nat), printT k (ts.map ptOf) = (if ts = [] then [] else sepS k) ++ joinT (sepList ts)
  | [], _ => rfl
  | [t], k => by
    rw [List.map_cons, List.map_nil, printT, printT, if_neg (by simp), item_pt, sepList, joinT, joinT]
    rfl
  | t :: u :: r, k => by
    rw [List.map_cons, printT, printT_join (u :: r) (k + 1), if_neg (by simp), if_neg (by simp), item_pt, sepList, joinT]
    show _ = _ ++ (_ ++ ([32] ++ _))
    have e : sepS (k + 1) = [32] := by unfold sepS; rw [if_pos (by omega)]
    rw [e]

/-- The printed tokens of a scan are found again. -/
theorem scan_printed {l : List UInt8} {ts : List Tok} (h : scanL l 0 = ⟨ts, 0, 0⟩) : ∃ us, AgreeL ts us ∧ scanL (printT 0 (ts.map ptOf)) 0 = ⟨us, 0, 0⟩ := by
  have hw := wf_of_scan h
  obtain ⟨us, ha, hs⟩ := scan_join (sepList ts) 0 (fun x hx => ⟨hw _ (sepList_mem ts x hx).1, (sepList_mem ts x hx).2⟩) (sepList_last ts)
  rw [sepList_fst] at ha
  refine ⟨us, ha, ?_⟩
  rw [printT_join]
  have e : (if ts = [] then [] else sepS 0) = ([] : List UInt8) := by split <;> rfl
  rw [e, List.nil_append, hs]

theorem printT_len (M : Nat) : ∀ (ps : List PT) (k : Nat), (∀ p ∈ ps, (itemS p).length ≤ M) → (printT k ps).length ≤ ps.length * (M + 1)
  | [], _, _ => by simp [printT]
  | p :: r, k, h => by
    have h1 := printT_len M r (k + 1) (fun q hq => h q (List.mem_cons_of_mem _ hq))
    have h2 := h p List.mem_cons_self
    have h3 : (sepS k).length ≤ 1 := by unfold sepS; split <;> simp
    rw [printT, List.length_append, List.length_append, List.length_cons, Nat.add_mul]
    omega

theorem scan_item_len {l : List UInt8} {ts : List Tok} (h : scanL l 0 = ⟨ts, 0, 0⟩) (hl : l.length ≤ 4096) {t : Tok} (ht : t ∈ ts) : (itemT t.kind t.text t.value).length ≤ 4096 := by
  obtain ⟨i, hi⟩ := List.getElem?_of_mem ht
  obtain ⟨_, _, g3, _⟩ := token_at h hi
  omega

theorem print_bound {l : List UInt8} {ts : List Tok} (h : scanL l 0 = ⟨ts, 0, 0⟩) (hl : l.length ≤ 4096) (hn : ts.length ≤ 4096) : (printT 0 (ts.map ptOf)).length ≤ 70368744177664 := by
  have h1 := printT_len 4096 (ts.map ptOf) 0 (fun p hp => by
    obtain ⟨t, ht, rfl⟩ := List.mem_map.1 hp
    rw [item_pt]
    exact scan_item_len h hl ht)
  rw [List.length_map] at h1
  have h2 : ts.length * (4096 + 1) ≤ 4096 * 4097 := Nat.mul_le_mul hn (by omega)
  omega

theorem pslice_of {w : World} {v : Value} {ts : List Tok} (h : TokSlice w v ts) : PSlice w.heap.size w v (ts.map ptOf) := by
  obtain ⟨A, c, rfl, hc, h1⟩ := h
  refine ⟨A, c, by rw [List.length_map], by rw [List.length_map]; exact hc, fun hne => ?_⟩
  have hne' : ts ≠ [] := fun h => hne (by rw [h]; rfl)
  obtain ⟨b, o, hA, h2⟩ := h1 hne'
  have hlt : b < w.heap.size := by
    cases ts with
    | nil => exact absurd rfl hne'
    | cons t r => exact World.block_lt_of_cell? w _ (h2 0 t rfl).1
  refine ⟨b, o, hA, hlt, fun i p hp => ?_⟩
  rw [List.getElem?_map] at hp
  obtain ⟨t, ht, rfl⟩ := Option.map_eq_some_iff.1 hp
  exact h2 i t ht

theorem print_toks {w : World} {v : Value} {ts : List Tok} {l : List UInt8} (hL : LW w) (hT : TokSlice w v ts) (h : scanL l 0 = ⟨ts, 0, 0⟩) (hl : l.length ≤ 4096) (hn : ts.length ≤ 4096) {x : ByteArray} (hx : strB (printT 0 (ts.map ptOf)) = x) :
    Calls Tryd.prog 19 #[v] w fun e w' => e = .returned (.string x) ∧ Below w.heap.size w w' := by
  have hp := print_any v (ts.map ptOf) w hL (pslice_of hT) (by rw [List.length_map]; omega) (print_bound h hl hn) (fun p hp => by
    obtain ⟨t, ht, rfl⟩ := List.mem_map.1 hp
    obtain ⟨i, hi⟩ := List.getElem?_of_mem ht
    exact scan_value h hi)
  rwa [hx] at hp

set_option maxHeartbeats 2000000 in
set_option maxRecDepth 100000 in
theorem tokenBack_ok (s : ByteArray) (w : World) (hL : LW w) (ts : List Tok) (hR : scanS s.data.toList = ⟨ts, 0, 0⟩) (hS : scanL s.data.toList 0 = ⟨ts, 0, 0⟩) (hsz : s.size ≤ 4096) :
    Calls Tryd.prog 6 #[.string s] w fun e w' => e = .returned (.bool true) ∧ Below w.heap.size w w' := by
  have hn : ts.length ≤ 4096 := by have := (scanS_len s.data.toList).1; rw [hR] at this; exact this
  obtain ⟨us, ha, hu⟩ := scan_printed hS
  obtain ⟨x, hx⟩ : ∃ x, strB (printT 0 (ts.map ptOf)) = x := ⟨_, rfl⟩
  have hxs : x.data.toList = printT 0 (ts.map ptOf) := by rw [← hx]; rfl
  have hxz : x.data.toList.length = x.size := by simp
  have HP := Lib.hid (fun (v : Value) (w : World) (hL : LW w) (hT : TokSlice w v ts) => print_toks hL hT hS (by simpa using hsz) hn hx)
  have HX := Lib.hid (fun (hc : ¬ 4096 < x.size) => show scanS x.data.toList = ⟨us, 0, 0⟩ by
    unfold scanS
    rw [if_neg (by omega), hxs, hu])
  have HS := Lib.hid (fun (v v' : Value) (w : World) (h1 : TokSlice w v ts) (h2 : TokSlice w v' us) => rsame_any v v' ts us w (by omega) (agree_len ha) h1 h2 (fun i t u h k => agree_at ha i t u h k))
  have HR := Lib.hid hR
  have HL := Lib.hid hL
  clear hR hS hL hx hxs hxz hu ha
  obtain ⟨n, hnn⟩ : ∃ n, ts.length = n := ⟨_, rfl⟩
  go_enter Tryd.func6, Tryd.ntmps6
  go_wp2_with (go_at_call 11; refine (awake_any _ HL.out).mono ?_; rintro e w1 ⟨rfl, hb⟩; have HB1 := Lib.hid hb; have HL1 := Lib.hid (HL.out.below hb HL.out.big); clear hb)
  go_wp2_with fail
  refine (scan_at s _ HL1.out _ HR.out).mono ?_
  rintro e w2 ⟨v, rfl, hs, hb⟩
  have HT := Lib.hid hs
  have HB2 := Lib.hid (HB1.out.trans (hb.mono HB1.out.size))
  have HL2 := Lib.hid (HL1.out.below hb HL1.out.big)
  clear hb hs
  go_wp2_with fail
  refine (HP.out v _ HL2.out HT.out).mono ?_
  rintro e w3 ⟨rfl, hb⟩
  have HB3 := Lib.hid (HB2.out.trans (hb.mono HB2.out.size))
  have HL3 := Lib.hid (HL2.out.below hb HL2.out.big)
  have HT3 := Lib.hid (HT.out.below hb)
  clear hb
  by_cases hc : 4096 < x.size
  · have q1 : decide ((4096 : Int) < (x.size : Int)) = true := decide_eq_true (by omega)
    have q1' : decide (4096 < x.size) = true := decide_eq_true hc
    obtain ⟨A, c, rfl, hcap, _⟩ := HT3.out
    go_wp2_with fail
    all_goals (go_ret; exact ⟨rfl, HB3.out⟩)
  · have q1 : decide ((4096 : Int) < (x.size : Int)) = false := decide_eq_false (by omega)
    have q1' : decide (4096 < x.size) = false := decide_eq_false hc
    go_wp2_with fail
    refine (HP.out v _ HL3.out HT3.out).mono ?_
    rintro e w4 ⟨rfl, hb⟩
    have HB4 := Lib.hid (HB3.out.trans (hb.mono HB3.out.size))
    have HL4 := Lib.hid (HL3.out.below hb HL3.out.big)
    have HT4 := Lib.hid (HT3.out.below hb)
    clear hb
    go_wp2_with fail
    refine (scan_at x _ HL4.out _ (HX.out hc)).mono ?_
    rintro e w5 ⟨v', rfl, hs, hb⟩
    have HB5 := Lib.hid (HB4.out.trans (hb.mono HB4.out.size))
    have HT5 := Lib.hid (HT4.out.below hb)
    have HU := Lib.hid hs
    clear hb hs
    go_wp2_with fail
    refine (HS.out v v' _ HT5.out HU.out).mono ?_
    rintro e w6 ⟨rfl, m, rfl⟩
    go_wp2
    go_ret
    exact ⟨rfl, below_drewN HB5.out _⟩

set_option maxHeartbeats 1000000 in
set_option maxRecDepth 100000 in
theorem tokenBack_err (s : ByteArray) (w : World) (hL : LW w) (off : Nat) (er : Int) (hR : scanS s.data.toList = ⟨[], off, er⟩) (he : er ≠ 0) :
    Calls Tryd.prog 6 #[.string s] w fun e w' => e = .returned (.bool true) ∧ Below w.heap.size w w' := by
  have HR := Lib.hid hR
  have HL := Lib.hid hL
  have hne : (er != 0) = true := by simpa using he
  clear hR hL he
  go_enter Tryd.func6, Tryd.ntmps6
  go_wp2_with (go_at_call 11; refine (awake_any _ HL.out).mono ?_; rintro e w1 ⟨rfl, hb⟩; have HB1 := Lib.hid hb; have HL1 := Lib.hid (HL.out.below hb HL.out.big); clear hb)
  go_wp2_with fail
  refine (scan_at s _ HL1.out _ HR.out).mono ?_
  rintro e w2 ⟨v, rfl, hs2, hb⟩
  obtain ⟨A, c, rfl, _, _⟩ := hs2
  have HB2 := Lib.hid (HB1.out.trans (hb.mono HB1.out.size))
  clear hb
  go_wp2
  go_ret
  exact ⟨rfl, HB2.out⟩

theorem tokenBack_any (s : ByteArray) (w : World) (_hs : s.size ≤ 140737488351232) (hL : LW w) : Calls Tryd.prog 6 #[.string s] w fun e w' => e = .returned (.bool true) ∧ Below w.heap.size w w' := by
  have hsl : s.data.toList.length = s.size := by simp
  rcases scanS_cases s.data.toList with ⟨ts, h1, h2, h3⟩ | ⟨off, er, h1, h2, _⟩
  · exact tokenBack_ok s w hL ts h1 h2 (by omega)
  · exact tokenBack_err s w hL off er h1 h2
end Go.Proofs.YtaenmaokieomgaaDoor
