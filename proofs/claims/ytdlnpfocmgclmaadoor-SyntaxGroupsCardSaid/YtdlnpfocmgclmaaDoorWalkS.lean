/-
  What Scan of package token returns: the tokens of a text, or its first error. Conditions: the library variables ErrRange and uint64pow10 hold what start-up laid.
-/
import Derived.Test.YtdlnpfocmgclmaaDoorWalkC
import Derived.Test.YtdlnpfocmgclmaaDoorMathS
import Derived.Deep.LoopGhost
namespace Go.Proofs.YtdlnpfocmgclmaaDoor
open Go.RowKit

theorem isBlank_b (c : Int) (b : Bool) (h : blankC c = b) (w : World) : Calls Tryd.prog 14 #[.int .u8 c] w fun e w' => e = .returned (.bool b) ∧ w = w' := by
  subst h; exact isBlank_any c w

def Tok.cells (t : Tok) : List Value := [.int .i64 t.kind, .string (strB t.text), .int .i64 t.value, .int .i64 t.off]

/-- What a scan leaves. -/
def ScanPost (R : ScanR) (w : World) (e : Ending) (w' : World) : Prop :=
  ∃ v, e = .returned (.tuple #[v, .int .i64 R.off, .int .i64 R.err]) ∧ w'.ownsRow w.heap.size 54 4 v R.toks.length (R.toks.flatMap Tok.cells) ∧ Below w.heap.size w w'

theorem infoTok : (Tryd.prog.info? 54).map (fun i => (i.zero, i.size, i.bytes)) = some (some (.agg #[.int .i64 0, .string ⟨#[]⟩, .int .i64 0, .int .i64 0]), 4, 40) := by kernel_rfl

theorem own_below {w w' : World} {base : Nat} {e : TypeId} {size : Nat} {v : Value} {n : Nat} {xs : List Value} (h : w.ownsRow base e size v n xs) (hb : Below w.heap.size w w') : w'.ownsRow base e size v n xs :=
  h.kept (row := none) ⟨hb.os, hb.tape, hb.output, hb.size, fun k hk _ => hb.block k hk⟩ (by cases hv : v.ownBlock <;> simp)

/-- What holds at the head of the loop of Scan. -/
def ScanHead (s : ByteArray) (w : World) (g : Nat) (v i : Value) (wr : World) : Prop :=
  ∃ (k : Nat) (acc : List Tok), k + g = s.size ∧ i = .int .i64 k ∧ appR acc (scanL (s.data.toList.drop k) k) = scanL s.data.toList 0 ∧ acc.length ≤ k ∧
    wr.ownsRow w.heap.size 54 4 v acc.length (acc.flatMap Tok.cells) ∧ Below w.heap.size w wr

theorem head_blank {s : ByteArray} {w wr : World} {g k : Nat} {v : Value} {acc : List Tok} (hkg : k + (g + 1) = s.size) (hlt : k < s.size) (hb : blankC s[k].toNat = true)
    (hR : appR acc (scanL (s.data.toList.drop k) k) = scanL s.data.toList 0) (hl : acc.length ≤ k) (ho : wr.ownsRow w.heap.size 54 4 v acc.length (acc.flatMap Tok.cells)) (hB : Below w.heap.size w wr) :
    ScanHead s w g v (.int .i64 ((k + 1 : Nat) : Int)) wr :=
  ⟨k + 1, acc, by omega, rfl, by rw [← scanL_blank k (drop_get s k hlt) hb]; exact hR, by omega, ho, hB⟩

theorem scan_end {s : ByteArray} {w wr : World} {k : Nat} {v : Value} {acc : List Tok} (hk : k = s.size)
    (hR : appR acc (scanL (s.data.toList.drop k) k) = scanL s.data.toList 0) (ho : wr.ownsRow w.heap.size 54 4 v acc.length (acc.flatMap Tok.cells)) (hB : Below w.heap.size w wr) :
    ScanPost (scanL s.data.toList 0) w (.returned (.tuple #[v, .int .i64 0, .int .i64 0])) wr := by
  have e : s.data.toList.drop k = [] := List.drop_eq_nil_of_le (by simp; omega)
  rw [e, scanL_nil] at hR
  rw [← hR]
  refine ⟨v, rfl, ?_, hB⟩
  simpa [appR] using ho

theorem first_at (s : ByteArray) (k : Nat) (hlt : k < s.size) (hs : s.size ≤ 4096) (er : Int) (ft : FTok) (hr : firstS (s.data.toList.drop k) = (er, ft)) (w : World) (hL : LW w) :
    Calls Tryd.prog 15 #[.string (s.extract k s.size)] w (FirstPost (er, ft) w) := by
  have e : (s.extract k s.size).data.toList = s.data.toList.drop k := Lib.extract_to_end s k
  have h := first_any (s.extract k s.size) w (by simp; omega) (by simp; omega) hL
  rwa [e, hr] at h

theorem scan_err {s : ByteArray} {w wr : World} {k : Nat} {acc : List Tok} {er : Int} {ft : FTok} (hlt : k < s.size) (hb : blankC s[k].toNat = false) (h2 : (s[k].toNat : Int) ≠ 35)
    (hr : firstS (s.data.toList.drop k) = (er, ft)) (he : er ≠ 0)
    (hR : appR acc (scanL (s.data.toList.drop k) k) = scanL s.data.toList 0) (hB : Below w.heap.size w wr) :
    ScanPost (scanL s.data.toList 0) w (.returned (.tuple #[.slice none 0 0, .int .i64 k, .int .i64 er])) wr := by
  rw [scanL_err k (drop_get s k hlt) hb h2 (by rw [hr]; exact he), hr] at hR
  rw [← hR]
  unfold appR
  rw [if_neg he]
  exact ⟨_, rfl, World.ownsRow_nil _ _ _ _, hB⟩

theorem cells_new (w : World) (a b c d : Value) (T : TypeId) : ∀ j u, ([a, b, c, d] : List Value)[j]? = some u → (w.alloc (.cells #[a, b, c, d] T)).cell? ((⟨w.heap.size, 0, none⟩ : Addr).add j) = some u := by
  intro j u hj
  have hadd : (⟨w.heap.size, 0, none⟩ : Addr).add j = ⟨w.heap.size, j, none⟩ := by unfold Addr.add; split <;> simp_all
  rw [hadd, cell_of_row _ _ j #[a, b, c, d] T (0, 0) (heap_alloc_new w _)]
  simpa using hj

theorem head_tok {s : ByteArray} {w wr : World} {g k n : Nat} {kd v : Int} {tx : List UInt8} {sv : Value} {acc : List Tok} (hkg : k + (g + 1) = s.size) (hlt : k < s.size) (hb : blankC s[k].toNat = false) (h2 : (s[k].toNat : Int) ≠ 35)
    (hr : firstS (s.data.toList.drop k) = (0, ⟨kd, tx, v, n⟩))
    (hR : appR acc (scanL (s.data.toList.drop k) k) = scanL s.data.toList 0) (hl : acc.length ≤ k)
    (ho : wr.ownsRow w.heap.size 54 4 sv (acc.length + 1) (acc.flatMap Tok.cells ++ Tok.cells ⟨kd, tx, v, k⟩)) (hB : Below w.heap.size w wr) :
    0 < n ∧ k + n ≤ s.size ∧ ScanHead s w (s.size - (k + n)) sv (.int .i64 ((k + n : Nat) : Int)) wr := by
  have hd := drop_get s k hlt
  have hs := firstS_size s[k] (s.data.toList.drop (k + 1)) (by rw [← hd, hr])
  rw [← hd, hr, List.length_drop] at hs
  have hs1 : 0 < n := hs.1
  have hs2 : n ≤ s.data.toList.length - k := hs.2
  have hz : s.data.toList.length = s.size := by simp
  rw [scanL_tok k hd hb h2 (by rw [hr]), appR_cons, hr, List.drop_drop] at hR
  refine ⟨hs1, by omega, k + n, acc ++ [⟨kd, tx, v, k⟩], by omega, rfl, hR, ?_, ?_, hB⟩
  · rw [List.length_append]; simp; omega
  · rw [List.length_append, List.flatMap_append]
    simpa using ho

/-- What holds in a comment: up to the place j there is no line feed. -/
def InCom (s : ByteArray) (k j : Nat) : Prop := k ≤ j ∧ j ≤ s.size ∧ comSz (s.data.toList.drop j) + j = comSz (s.data.toList.drop k) + k

theorem inCom_next {s : ByteArray} {k j : Nat} (h : InCom s k j) (hj : j < s.size) (hc : (s[j].toNat : Int) ≠ 10) : InCom s k (j + 1) := by
  obtain ⟨h1, h2, h3⟩ := h
  refine ⟨by omega, by omega, ?_⟩
  rw [drop_get s j hj, comSz, if_neg hc] at h3
  omega

theorem inCom_stop {s : ByteArray} {k j : Nat} (h : InCom s k j) (hj : ∀ hj : j < s.size, (s[j].toNat : Int) = 10) : comSz (s.data.toList.drop k) + k = j := by
  obtain ⟨h1, h2, h3⟩ := h
  rw [← h3]
  by_cases hlt : j < s.size
  · rw [drop_get s j hlt, comSz, if_pos (hj hlt)]; omega
  · have e : s.data.toList.drop j = [] := List.drop_eq_nil_of_le (by simp; omega)
    rw [e, comSz]; omega

/-- Behind a comment. -/
theorem head_com {s : ByteArray} {w wr : World} {k j : Nat} {v : Value} {acc : List Tok} (hlt : k < s.size) (hb : blankC s[k].toNat = false) (h2 : (s[k].toNat : Int) = 35)
    (hR : appR acc (scanL (s.data.toList.drop k) k) = scanL s.data.toList 0) (hl : acc.length ≤ k) (ho : wr.ownsRow w.heap.size 54 4 v acc.length (acc.flatMap Tok.cells)) (hB : Below w.heap.size w wr)
    (hI : InCom s k j) (hj : ∀ hj : j < s.size, (s[j].toNat : Int) = 10) :
    k < j ∧ ScanHead s w (s.size - j) v (.int .i64 j) wr := by
  have hs := inCom_stop hI hj
  obtain ⟨h1, h3, _⟩ := hI
  have hk : k ≠ j := by rintro rfl; have := hj hlt; omega
  rw [scanL_com k (drop_get s k hlt) hb h2, List.drop_drop, show k + comSz (s.data.toList.drop k) = j by omega] at hR
  exact ⟨by omega, j, acc, by omega, rfl, hR, by omega, ho, hB⟩

theorem head_end {s : ByteArray} {w wr : World} {g j : Nat} {v : Value} (hj : s.size ≤ j) (h : ScanHead s w g v (.int .i64 j) wr) :
    ScanPost (scanL s.data.toList 0) w (.returned (.tuple #[v, .int .i64 0, .int .i64 0])) wr := by
  obtain ⟨k', acc', hk', he, hR', _, ho', hB'⟩ := h
  injection he with _ he
  exact scan_end (by omega) hR' ho' hB'

set_option maxHeartbeats 1000000 in
set_option maxRecDepth 100000 in
theorem scan_loop (s : ByteArray) (w : World) (hs : s.size ≤ 4096) (hL : LW w) :
    Calls Tryd.prog 9 #[.string s] w (ScanPost (scanL s.data.toList 0) w) := by
  obtain ⟨i0, hi, hz0, hz1, hz2⟩ := info_parts infoTok
  have hbig : decide ((4096 : Int) < (s.size : Int)) = false := by simp; omega
  have HL : Hid (LW w) := hL
  clear hL
  go_enter Tryd.func9, Tryd.ntmps9
  go_wp2
  go_step3
  go_wp2
  go_step3
  go_wp2
  clear hbig
  go_loopg [5, 6] s.size (ScanHead s w)
  case atStart => exact ⟨0, [], by omega, rfl, by rw [appR_nil]; rfl, Nat.le_refl _, World.ownsRow_nil _ _ _ _, Below.refl _ _⟩
  case round =>
    obtain ⟨k, acc, hkg, rfl, hR, hl, ho, hB⟩ := hrel
    have HX : Hid (appR acc (scanL (s.data.toList.drop k) k) = scanL s.data.toList 0) := hR
    clear hR
    cases gk with
    | zero =>
      have HH := Lib.hid (scan_end (by omega) HX.out ho hB)
      have hge : s.size ≤ k := by omega
      clear ho hB HX hkg
      go_wp2
      rw [Exit.noGoto_ret]
      go_ret3
      exact HH.out
    | succ g =>
      have hlt : k < s.size := by omega
      by_cases hb : blankC s[k].toNat = true
      · have HH : Hid (∀ g, k + (g + 1) = s.size → ScanHead s w g _ (.int .i64 ((k + 1 : Nat) : Int)) wr) := fun g hg => head_blank hg hlt hb HX.out hl ho hB
        have HB : Hid (blankC s[k].toNat = true) := hb
        have HG : Hid (k + (g + 1) = s.size) := hkg
        clear hb ho hB HX hkg
        go_wp2_with (go_at_call 14; refine (isBlank_b _ _ HB.out _).mono ?_; rintro e w' ⟨rfl, rfl⟩)
        go_roundg g
        case rel => exact HH.out g HG.out
        case measure => omega
      · have HB : Hid (blankC s[k].toNat = false) := hid_false hb
        clear hb
        by_cases hc : (s[k].toNat : Int) = 35
        · have hcb : ((s[k].toNat : Int) == 35) = true := by simpa using hc
          have HG : Hid (k + (g + 1) = s.size) := hkg
          have HJ := Lib.hid (fun (j : Nat) => head_com (j := j) hlt HB.out hc HX.out hl ho hB)
          clear hc hkg ho hB HX
          obtain ⟨wo, rfl⟩ : ∃ wo : World, wo = wr := ⟨_, rfl⟩
          go_wp2_with (go_at_call 14; refine (isBlank_b _ _ HB.out _).mono ?_; rintro e w' ⟨rfl, rfl⟩)
          go_loopg [6] (s.size - k) (fun g' i wx => ∃ j : Nat, j + g' = s.size ∧ i = .int .i64 j ∧ InCom s k j ∧ wx = wo)
          case atStart => exact ⟨k, by omega, rfl, ⟨Nat.le_refl _, by omega, rfl⟩, rfl⟩
          case round =>
            obtain ⟨j, hjg, rfl, hI, rfl⟩ := hrel
            have HI := Lib.hid hI
            cases gk with
            | zero =>
              have hge : s.size ≤ j := by omega
              have HP := Lib.hid (head_end hge (HJ.out j hI (fun h => by omega)).2)
              clear hI hjg
              go_wp2
              rw [Exit.noGoto_ret]
              go_ret3
              exact HP.out
            | succ g2 =>
              have hlj : j < s.size := by omega
              have HJG := Lib.hid hjg
              by_cases h10 : (s[j].toNat : Int) = 10
              · have htb : ((s[j].toNat : Int) == 10) = true := by simpa using h10
                have HP := Lib.hid (HJ.out j hI (fun _ => h10))
                clear hI hjg h10
                go_wp2
                go_roundg (s.size - j)
                case rel => exact HP.out.2
                case measure => have := HP.out.1; have := HG.out; omega
              · have htb : ((s[j].toNat : Int) == 10) = false := by simpa using h10
                have HP := Lib.hid (inCom_next hI hlj h10)
                clear hI hjg h10
                go_wp2
                go_roundg g2
                case rel => exact ⟨j + 1, by have := HJG.out; omega, by go_num, HP.out, rfl⟩
                case measure => omega
        · have hcb : ((s[k].toNat : Int) == 35) = false := by simpa using hc
          have HC : Hid ((s[k].toNat : Int) ≠ 35) := hc
          clear hc
          obtain ⟨⟨er, ft⟩, hr⟩ : ∃ r, firstS (s.data.toList.drop k) = r := ⟨_, rfl⟩
          obtain ⟨kd, tx, v, n⟩ := ft
          have HR : Hid (firstS (s.data.toList.drop k) = (er, ⟨kd, tx, v, n⟩)) := hr
          have HLr := Lib.hid (HL.out.below hB HL.out.big)
          have HG : Hid (k + (g + 1) = s.size) := hkg
          have HO := Lib.hid ho
          have HBw := Lib.hid hB
          clear hr hkg ho hB
          by_cases he : er = 0
          · subst he
            go_wp2_with (first | (go_at_call 14; refine (isBlank_b _ _ HB.out _).mono ?_; rintro e w' ⟨rfl, rfl⟩) | (go_at_call 15; refine (first_at s k hlt hs _ _ HR.out _ HLr.out).mono ?_; rintro e w1 ⟨rfl, hb1⟩; have HO1 := Lib.hid (own_below HO.out hb1); have HB1 := Lib.hid hb1; clear hb1) | (at_builtin; refine wpList_append_own _ rfl _ _ 40 rfl w.heap.size 54 i0 _ 4 40 Tryd.underlying40 hi hz0 hz1 hz2 rfl (by decide) _ _ _ rfl ((HO1.out.alloc _).alloc _) ⟨w1.heap.size + 1, 0, none⟩ 1 1 (Tok.cells ⟨kd, tx, v, k⟩) rfl rfl ?c1 ?c2 ?c3 ?c4 ?c5 ?_))
            case c1 =>
              have h := cells_new (w1.alloc (.cells #[.int .i64 kd, .string (strB tx), .int .i64 v, .int .i64 k] 54)) (.int .i64 kd) (.string (strB tx)) (.int .i64 v) (.int .i64 k) 54
              rw [World.size_alloc] at h
              exact h
            case c2 =>
              intro u hu
              simp only [Tok.cells, List.mem_cons, List.not_mem_nil, or_false] at hu
              rcases hu with rfl | rfl | rfl | rfl <;> rfl
            case c3 => unfold maxLen; omega
            case c4 => omega
            case c5 =>
              have h1 := HBw.out.size
              have h2 := HB1.out.size
              simp only [World.size_alloc]
              omega
            intro v' w2 hown' hgrow _
            have hB1 : Below w.heap.size w w1 := HBw.out.trans (HB1.out.mono HBw.out.size)
            have hB2 : Below w.heap.size w w2 := by
              refine ((hB1.alloc hB1.size _).alloc (hB1.alloc hB1.size _).size _).grown hgrow ((hB1.alloc hB1.size _).alloc (hB1.alloc hB1.size _).size _).size (fun k hk => (HO1.out.lt k hk).1)
            obtain ⟨hn0, hkn, HH0⟩ := head_tok HG.out hlt HB.out HC.out HR.out HX.out hl hown' hB2
            have HH := Lib.hid HH0
            clear HH0 hown' hgrow hB1 hB2
            go_wp2
            go_roundg (s.size - (k + n))
            case rel => have h := HH.out; rw [Int.natCast_add] at h; exact h
            case measure => have := HG.out; omega
          · have hne : (er != 0) = true := by simpa using he
            have HE := Lib.hid (fun (w' : World) (hb : Below w.heap.size w w') => scan_err hlt HB.out HC.out HR.out he HX.out hb)
            have HBc : Hid (∀ w' : World, Below wr.heap.size wr w' → Below w.heap.size w w') := fun w' h => HBw.out.trans (h.mono HBw.out.size)
            clear he HX
            go_wp2_with (first | (go_at_call 14; refine (isBlank_b _ _ HB.out _).mono ?_; rintro e w' ⟨rfl, rfl⟩) | (go_at_call 15; refine (first_at s k hlt hs _ _ HR.out _ HLr.out).mono ?_; rintro e w1 ⟨rfl, hb1⟩; have HB1 := Lib.hid hb1; clear hb1))
            rw [Exit.noGoto_ret]
            go_ret3
            exact HE.out _ ((HBc.out _ HB1.out).alloc (HBc.out _ HB1.out).size _)

set_option maxHeartbeats 400000 in
theorem scan_long (s : ByteArray) (w : World) (h : 4096 < s.size) :
    Calls Tryd.prog 9 #[.string s] w fun e w' => e = .returned (.tuple #[.slice none 0 0, .int .i64 0, .int .i64 5]) ∧ w = w' := by
  go_enter Tryd.func9, Tryd.ntmps9
  have hd : decide ((4096 : Int) < (s.size : Int)) = true := by simp; omega
  go_wp2
  go_step3
  go_wp2
  try rw [Exit.noGoto_ret]
  go_ret3
  exact ⟨rfl, rfl⟩

theorem scan_any (s : ByteArray) (w : World) (hL : LW w) : Calls Tryd.prog 9 #[.string s] w (ScanPost (scanS s.data.toList) w) := by
  have hz : s.data.toList.length = s.size := by simp
  unfold scanS
  by_cases h : 4096 < s.data.toList.length
  · rw [if_pos h]
    refine (scan_long s w (by omega)).mono ?_
    rintro e w' ⟨rfl, rfl⟩
    exact ⟨_, rfl, World.ownsRow_nil _ _ _ _, Below.refl _ _⟩
  · rw [if_neg h]
    exact scan_loop s w (by omega) hL

end Go.Proofs.YtdlnpfocmgclmaaDoor
