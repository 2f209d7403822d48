/-
  The walk of the law TokenPrints, and how an argument that is a list of tokens reads. Conditions: as for Scan; the tokens' texts have together at most 2^46 bytes.
-/
import Derived.Test.YtaenmaokieomgaaDoorWalkRPrint
import Derived.Test.YtaenmaokieomgaaDoorRows
import Derived.Deep.Slices
import Derived.Deep.Fields
import Derived.ChangeSame
import Derived.OpenShut
namespace Go.Proofs.YtaenmaokieomgaaDoor
open Go.RowKit Go.ChangeShapes Go.WideShapes Go.Deep

section
variable {H : Type} {enc : TypeId × Value → H} {P : Program} {w : World} {base : Nat} {spare : Nat → Bool} {held : Bool}
theorem open_slice_fields {t e : TypeId} {fs : Array Field} {fuel : Nat} {cs : List Value} {x : DataW H × List MemPlace} (ht : P.underlying t = some (.slice e)) (he : P.underlying e = some (.struct fs))
    (hone : oneCellFields P fs = true) (hC : P.cellsOf e = fs.size) (h : DataW.trod enc P w base spare held fuel t cs = some x) :
    (cs = [.slice none 0 0] ∧ x = (.nil, [])) ∨
    ∃ (a : Addr) (len cap m : Nat) (D : Nat → DataW H) (Pl : Nat → List MemPlace), cs = [.slice (some a) len cap] ∧ base ≤ a.block ∧ len ≤ cap ∧ cap ≤ maxLen ∧ m = (if spare a.block then cap else len) ∧
      x = (.slice ((List.range len).map D) ((List.range (m - len)).map fun j => D (len + j)), MemPlace.row a (m * fs.size) ++ (List.range m).flatMap Pl) ∧
      ∀ i, i < m → ∃ (ys : List (DataW H × List MemPlace)) (n : Nat), D i = .agg (ys.map (·.1)) ∧ Pl i = ys.flatMap (·.2) ∧ ys.length = fs.size ∧
        ∀ (j : Nat) (f : Field), fs[j]? = some f → ∃ (v : Value) (y : DataW H × List MemPlace), w.cell? (a.add (i * fs.size + j)) = some v ∧ ys[j]? = some y ∧ DataW.trod enc P w base spare held n f.type [v] = some y := by
  rcases open_slice ht h with h0 | ⟨a, len, cap, m, n, D, Pl, hcs, hb, hl, hm, hmm, hx, hi⟩
  · exact .inl h0
  · refine .inr ⟨a, len, cap, m, D, Pl, hcs, hb, hl, hm, hmm, by rw [hC] at hx; exact hx, fun i him => ?_⟩
    obtain ⟨cs', hc, ht'⟩ := hi i him
    rw [hC] at hc
    obtain ⟨ys, n', hn', hy, hlen, hyl, hf⟩ := DataW.trod_struct he ht'
    obtain ⟨_, hcl, hat⟩ := World.cells?_some hc
    simp only [Prod.mk.injEq] at hy
    refine ⟨ys, n', hy.1, hy.2, hyl, fun j f hj => ?_⟩
    obtain ⟨ho, hk⟩ := hone_of hone j f hj
    have hjl : j < fs.size := (Array.getElem?_eq_some_iff.1 hj).1
    have hcell := hat j hjl
    have hv : cs'[j]? = some (cs'[j]'(by omega)) := List.getElem?_eq_getElem (by omega)
    have h1 := hf j f hj
    rw [ho, hk] at h1
    have hone' : (cs'.drop j).take 1 = [cs'[j]'(by omega)] := by
      rw [List.drop_eq_getElem_cons (by omega)]
      rfl
    rw [hone'] at h1
    have hys : ys[j]? = some (ys[j]'(by omega)) := List.getElem?_eq_getElem (by omega)
    refine ⟨_, _, ?_, hys, h1.trans hys⟩
    rw [← Go.Deep.add_add, hcell, hv]
end

theorem PSlice.below {B : Nat} {w w' : World} {v : Value} {ps : List PT} (h : PSlice B w v ps) (hb : Below B w w') : PSlice B w' v ps := by
  obtain ⟨A, c, hv, hc, h1⟩ := h
  refine ⟨A, c, hv, hc, fun hne => ?_⟩
  obtain ⟨b, o, hA, hlt, h2⟩ := h1 hne
  refine ⟨b, o, hA, hlt, fun i p hi => ?_⟩
  obtain ⟨e0, e1, e2, e3⟩ := h2 i p hi
  exact ⟨(hb.cell (p := ⟨b, _, none⟩) hlt).trans e0, (hb.cell (p := ⟨b, _, none⟩) hlt).trans e1, (hb.cell (p := ⟨b, _, none⟩) hlt).trans e2, (hb.cell (p := ⟨b, _, none⟩) hlt).trans e3⟩
theorem PSlice.more {B B' : Nat} {w : World} {v : Value} {ps : List PT} (h : PSlice B w v ps) (hB : B ≤ B') : PSlice B' w v ps := by
  obtain ⟨A, c, hv, hc, h1⟩ := h
  refine ⟨A, c, hv, hc, fun hne => ?_⟩
  obtain ⟨b, o, hA, hlt, h2⟩ := h1 hne
  exact ⟨b, o, hA, by omega, h2⟩

set_option maxHeartbeats 1000000 in
set_option maxRecDepth 100000 in
theorem tokenPrints_long (A : Option Addr) (n c : Nat) (w : World) (hL : LW w) (h : 100 < n) : Calls Tryd.prog 5 #[.slice A n c] w fun e w' => e = .returned (.bool true) ∧ Below w.heap.size w w' := by
  have HL := Lib.hid hL
  clear hL
  have h1 : decide ((100 : Int) < (n : Int)) = true := decide_eq_true (by omega)
  go_enter Tryd.func5, Tryd.ntmps5
  go_wp2_with (go_at_call 11; refine (awake_any _ HL.out).mono ?_; rintro e w1 ⟨rfl, hb⟩; have HB1 := Lib.hid hb; clear hb)
  go_ret
  exact ⟨rfl, HB1.out⟩

set_option maxHeartbeats 1000000 in
set_option maxRecDepth 100000 in
theorem tokenPrints_short (A : Option Addr) (n c : Nat) (ps : List PT) (w : World) (hL : LW w) (hP : PSlice w.heap.size w (.slice A n c) ps) (hn : n ≤ 100) (hbd : (printT 0 ps).length ≤ 70368744177664) (hv : ∀ p ∈ ps, p.value ≤ 9223372036854775807) :
    Calls Tryd.prog 5 #[.slice A n c] w fun e w' => e = .returned (.bool true) ∧ Below w.heap.size w w' := by
  have HL := Lib.hid hL
  have HP := Lib.hid hP
  have HV := Lib.hid hv
  have hps : ps.length ≤ 100000 := by
    obtain ⟨A', c', e, _⟩ := hP
    injection e with _ e2 _
    omega
  have HPS := Lib.hid hps
  have HBD := Lib.hid hbd
  clear hL hP hv hps hbd
  have h1 : decide ((100 : Int) < (n : Int)) = false := decide_eq_false (by omega)
  go_enter Tryd.func5, Tryd.ntmps5
  go_wp2_with (first | (go_at_call 11; refine (awake_any _ HL.out).mono ?_; rintro e w1 ⟨rfl, hb⟩; have HB1 := Lib.hid hb; have HL1 := Lib.hid (HL.out.below hb HL.out.big); have HP1 := Lib.hid ((HP.out.below hb).more hb.size); clear hb) | (go_at_call 19; refine (print_any _ ps _ HL1.out HP1.out HPS.out HBD.out HV.out).mono ?_; rintro e w2 ⟨rfl, hb⟩; have HB2 := Lib.hid hb; have HP2 := Lib.hid ((HP1.out.below hb).more hb.size); clear hb) | (go_at_call 20; refine (rprint_any _ ps _ HP2.out HPS.out HBD.out HV.out).mono ?_; rintro e w3 ⟨rfl, hb⟩; have HB3 := Lib.hid hb; clear hb))
  go_ret
  have h1 := HB1.out
  have h2 := h1.trans (HB2.out.mono h1.size)
  exact ⟨by simp, h2.trans (HB3.out.mono h2.size)⟩


theorem itemS_len (p : PT) (h : p.value ≤ 9223372036854775807) : (itemS p).length ≤ p.text.size + 20 := by
  unfold itemS
  split
  · simp
  · split
    · have := decDigits_short p.value.toNat (by omega)
      omega
    · simp
theorem sepS_len (k : Nat) : (sepS k).length ≤ 1 := by
  unfold sepS
  split <;> simp

/-- What a token reads as. -/
def datOf {H : Type} (p : PT) : DataW H := .agg [.lit (.int .i64 p.kind), .lit (.string p.text.data.toList), .lit (.int .i64 p.value), .lit (.int .i64 p.off)]
theorem bulk_dat {H : Type} (p : PT) : Rows.uptoBulk (datOf (H := H) p) = p.text.size + 5 := by
  have e : p.text.data.toList.length = p.text.size := by simp
  simp only [datOf, Rows.uptoBulk, Rows.uptoBulkAll, e]
  omega

theorem print_bulk {H : Type} (D : Nat → DataW H) (f : Nat → PT) : ∀ (l : List Nat) (k : Nat), (∀ i ∈ l, D i = datOf (f i) ∧ (f i).value ≤ 9223372036854775807) → (printT k (l.map f)).length ≤ Rows.uptoBulkAll (l.map D) + 21 * l.length
  | [], k, _ => by simp [printT]
  | i :: l, k, h => by
    obtain ⟨h1, h2⟩ := h i (List.mem_cons_self)
    have ih := print_bulk D f l (k + 1) (fun j hj => h j (List.mem_cons_of_mem _ hj))
    have a1 := itemS_len (f i) h2
    have a2 := sepS_len k
    simp only [List.map_cons, printT, Rows.uptoBulkAll, List.length_append, List.length_cons]
    rw [h1, bulk_dat]
    omega

theorem oneTok : oneCellFields Tryd.prog #[{ name := "Kind", type := 3, offset := 0, embedded := false, tag := "", pkgPath := "", byteOffset := 0 }, { name := "Text", type := 9, offset := 1, embedded := false, tag := "", pkgPath := "", byteOffset := 8 }, { name := "Value", type := 3, offset := 2, embedded := false, tag := "", pkgPath := "", byteOffset := 24 }, { name := "At", type := 3, offset := 3, embedded := false, tag := "", pkgPath := "", byteOffset := 32 }] = true := by kernel_rfl
theorem cellsTok : Tryd.prog.cellsOf 38 = 4 := by kernel_rfl

theorem open_toks {H : Type} {enc : TypeId × Value → H} {W : World} {A : Option Addr} {n c : Nat} {d : DataW H} {p : List MemPlace}
    (h : DataW.Trod enc Tryd.prog W 0 (fun _ => true) true 23 (.slice A n c) d p) :
    ∃ ps : List PT, PSlice W.heap.size W (.slice A n c) ps ∧ (∀ q ∈ ps, q.value ≤ 9223372036854775807) ∧ (printT 0 ps).length ≤ Rows.uptoBulk d + 21 * n := by
  obtain ⟨fuel, hf⟩ := h
  rcases open_slice_fields Tryd.underlying23 Tryd.underlying38 oneTok cellsTok hf with ⟨hcs, hx⟩ | ⟨a, len, cap, m, D, Pl, hcs, _, hl, hm, hmm, hx, hi⟩
  · obtain ⟨rfl, rfl, rfl⟩ : A = none ∧ n = 0 ∧ c = 0 := by simpa [Value.cells] using hcs
    exact ⟨[], ⟨none, 0, rfl, Nat.le_refl _, fun h => absurd rfl h⟩, fun q hq => absurd hq (by simp), Nat.zero_le _⟩
  · obtain ⟨rfl, rfl, rfl⟩ : A = some a ∧ n = len ∧ c = cap := by simpa [Value.cells] using hcs
    have hlm : n ≤ m := by rw [hmm]; split <;> omega
    have hspot : 0 < m → a.spot = none := fun h => by
      obtain ⟨_, _, _, _, _, hfl⟩ := hi 0 h
      obtain ⟨v0, y0, c0, _, _⟩ := hfl 0 _ rfl
      have c0' : W.cell? (a.add (0 * 4)) = some v0 := c0
      have hs := World.cell?_spot c0'
      simpa [Addr.add] using hs
    have key : ∀ i, ∃ q : PT, i < m → (D i = datOf q ∧ q.value ≤ 9223372036854775807 ∧ a.spot = none ∧ a.block < W.heap.size ∧ PAt W a.block (a.off + i * 4) q) := by
      intro i
      by_cases him : i < m
      · obtain ⟨ys, k, hD, _, hyl, hfl⟩ := hi i him
        obtain ⟨v0, y0, c0, e0, t0⟩ := hfl 0 _ rfl
        obtain ⟨v1, y1, c1, e1, t1⟩ := hfl 1 _ rfl
        obtain ⟨v2, y2, c2, e2, t2⟩ := hfl 2 _ rfl
        obtain ⟨v3, y3, c3, e3, t3⟩ := hfl 3 _ rfl
        obtain ⟨n0, h0, rfl, w0⟩ := DataW.trod_int Tryd.underlying3 t0
        obtain ⟨s1, h1, rfl, _⟩ := DataW.trod_string Tryd.underlying9 t1
        obtain ⟨n2, h2, rfl, w2⟩ := DataW.trod_int Tryd.underlying3 t2
        obtain ⟨n3, h3, rfl, w3⟩ := DataW.trod_int Tryd.underlying3 t3
        simp only [List.cons.injEq, and_true] at h0 h1 h2 h3
        subst h0 h1 h2 h3
        match ys, hyl, e0, e1, e2, e3, hD with
        | [x0, x1, x2, x3], _, e0, e1, e2, e3, hD =>
          simp only [List.getElem?_cons_zero, List.getElem?_cons_succ, Option.some.injEq] at e0 e1 e2 e3
          subst e0 e1 e2 e3
          have hadd : ∀ j, 0 < j → a.add j = ⟨a.block, a.off + j, none⟩ := fun j hj => by unfold Addr.add; rw [if_neg (by omega)]
          have b1 : W.cell? ⟨a.block, a.off + (i * 4 + 1), none⟩ = some (.string s1) := by rw [← hadd _ (by omega)]; exact c1
          have hblk := World.block_lt_of_cell? W _ b1
          have c0' : W.cell? (a.add (i * 4)) = some (.int .i64 n0) := c0
          have hz : W.cell? ⟨a.block, a.off + i * 4, none⟩ = some (.int .i64 n0) := by
            by_cases hi0 : i = 0
            · subst hi0
              have hs := World.cell?_spot c0'
              obtain ⟨ab, ao, asp⟩ := a
              simp only [Addr.add] at hs c0'
              simp at hs c0'
              subst hs
              simpa using c0'
            · rw [← hadd _ (by omega)]; exact c0'
          refine ⟨⟨n0, s1, n2, n3⟩, fun _ => ⟨hD, (bounds_i64 w2).2, ?_, hblk, hz, b1, ?_, ?_⟩⟩
          · exact hspot (by omega)
          · have : W.cell? (a.add (i * 4 + 2)) = some (.int .i64 n2) := c2
            rw [hadd _ (by omega)] at this; exact this
          · have : W.cell? (a.add (i * 4 + 3)) = some (.int .i64 n3) := c3
            rw [hadd _ (by omega)] at this; exact this
      · exact ⟨⟨0, strB [], 0, 0⟩, fun h => absurd h him⟩
    obtain ⟨f, hf⟩ := Classical.skolem.1 key
    refine ⟨(List.range n).map f, ⟨some a, c, by simp, by simpa using hl, fun hne => ?_⟩, ?_, ?_⟩
    · have h0 : 0 < m := by
        rcases Nat.eq_zero_or_pos n with h | h
        · subst h; exact absurd rfl hne
        · omega
      obtain ⟨_, _, hs, hb, _⟩ := hf 0 h0
      obtain ⟨ab, ao, asp⟩ := a
      simp only at hs hb
      subst hs
      refine ⟨ab, ao, rfl, hb, fun i q hq => ?_⟩
      rw [List.getElem?_map] at hq
      by_cases hin : i < n
      · rw [List.getElem?_range hin] at hq
        simp only [Option.map_some, Option.some.injEq] at hq
        subst hq
        exact (hf i (by omega)).2.2.2.2
      · rw [List.getElem?_eq_none (by simpa using hin)] at hq
        cases hq
    · intro q hq
      obtain ⟨i, hi, rfl⟩ := List.mem_map.1 hq
      exact (hf i (by have := List.mem_range.1 hi; omega)).2.1
    · have hpb := print_bulk D f (List.range n) 0 (fun i hi => ⟨(hf i (by have := List.mem_range.1 hi; omega)).1, (hf i (by have := List.mem_range.1 hi; omega)).2.1⟩)
      rw [List.length_range] at hpb
      simp only [Prod.mk.injEq] at hx
      rw [hx.1]
      simp only [Rows.uptoBulk]
      omega

theorem tokenPrints_any {H : Type} {enc : TypeId × Value → H} {W : World} {A : Option Addr} {n c : Nat} {d : DataW H} {p : List MemPlace} (hL : LW W)
    (h : DataW.Trod enc Tryd.prog W 0 (fun _ => true) true 23 (.slice A n c) d p) (hbd : Rows.uptoBulk d ≤ 1048576) :
    Calls Tryd.prog 5 #[.slice A n c] W fun e w' => e = .returned (.bool true) ∧ Below W.heap.size W w' := by
  by_cases hn : 100 < n
  · exact tokenPrints_long A n c W hL hn
  · obtain ⟨ps, hP, hv, hl⟩ := open_toks h
    exact tokenPrints_short A n c ps W hL hP (by omega) (by omega) hv

end Go.Proofs.YtaenmaokieomgaaDoor
