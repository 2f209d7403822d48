/-
  What putList of pages, putState, and PutEvent, PutDet, PutPages, PutState of package codec return (gens94.py writes this text). Conditions: all bytes together number at most 2^47; at most 2^40 elements each.
-/
import Derived.Test.YtadikcioacaphaaWalkPp
namespace Go.Proofs.Ytadikcioacaphaa
open Go.RowKit

theorem away_of {base n k : Nat} {v0 v : Value} {w0 : World} {cs : List Value} {A : Option Addr} (hz : RwAt w0 k cs A n) (hk : 0 < k) (h0 : 0 < n) (ha : Away base v0 A) (hm : Moved v0 v w0) : Away base v A := by
  intro b o e
  obtain ⟨b', o', e', hc⟩ := hz.2 h0
  rw [e] at e'
  cases e'
  have hlt : b < w0.heap.size := by
    obtain ⟨u, r, e2⟩ := List.exists_cons_of_length_pos (show 0 < cs.length by rw [hz.1]; exact Nat.mul_pos h0 hk)
    rw [e2] at hc
    exact hc.lt
  rcases ha b o e with h | h
  · exact .inl h
  · right
    rcases hm with e2 | ⟨k, hk, e2⟩
    · rw [e2]; exact h
    · rw [e2]; intro e3; injection e3 with e3; omega

set_option maxHeartbeats 1000000 in
set_option maxRecDepth 100000 in
theorem putEvents_zero (base : Nat) (bs : List Nat) (v : Value) (A : Option Addr) (c : Nat) (w : World) (hb : Buf base w v bs) (hbase : base ≤ w.heap.size) (hl : (bs ++ bytR 0 []).length ≤ 140737488355328) :
    Calls Try.prog 56 #[v, .slice A 0 c, (.func (.func 32) #[] #[])] w (BufPost base v (bs ++ bytR 0 []) w) := by
  have hst := BufSt.start hb hbase
  have HST0 := Lib.hid hst
  have hll : bs ++ bytR 0 [] = bs ++ bytZ ((0 : Nat) : Int) := by simp [bytR, bytL]
  rw [hll] at hl ⊢
  have HL0 := Lib.hid hl
  have HNI : Hid (I64 ((0 : Nat) : Int)) := by constructor <;> decide
  clear hb hbase hl hst hll
  go_enter Try.func56, Try.ntmps56
  go_wp2_with fail
  refine (putNumber_any base bs v ((0 : Nat) : Int) _ HST0.out.buf HNI.out HST0.out.size HL0.out).mono ?_
  intro e w1 hp
  obtain ⟨v1, rfl, hs1⟩ := HST0.out.step hp
  have HQ := Lib.hid hs1.post
  clear hp hs1
  go_wp2_with fail
  go_loopg [0, 15] 0 (fun g b i wr => b = v1 ∧ i = .int .i64 0 ∧ Hid (wr = w1))
  case atStart => exact ⟨rfl, rfl, rfl⟩
  case round =>
    obtain ⟨rfl, rfl, HE⟩ := hrel
    have he := HE.out
    subst he
    clear HE
    go_wp2_with fail
    go_ret
    exact HQ.out
theorem putEvents_at (base : Nat) (bs : List Nat) (v0 v : Value) (zs : List Int) (A : Option Addr) (n c : Nat) (w0 w : World) (hst : BufSt base v0 w0 w v bs) (hz : RwAt w0 7 (zs.map (Value.int .i64)) A n) (ha : 0 < n → Away base v0 A) (hi : ∀ z ∈ zs, I64 z) (hl : (bs ++ bytR n zs).length ≤ 140737488355328) (hn : n ≤ 1099511627776) :
    Calls Try.prog 56 #[v, .slice A n c, (.func (.func 32) #[] #[])] w (BufPost base v (bs ++ bytR n zs) w) := by
  rcases Nat.eq_zero_or_pos n with h0 | h0
  · subst h0
    have hzs : zs = [] := List.eq_nil_of_length_eq_zero (by have := hz.1; rw [List.length_map] at this; omega)
    subst hzs
    exact putEvents_zero base bs v A c w hst.buf hst.size hl
  · exact putEvents_any base bs v zs A n c w hst.buf (hz.grew (by decide) hst.grew (ha h0)) (away_of hz (by decide) h0 (ha h0) hst.moved) hi hst.size hl hn

set_option maxHeartbeats 1000000 in
set_option maxRecDepth 100000 in
theorem putSends_zero (base : Nat) (bs : List Nat) (v : Value) (A : Option Addr) (c : Nat) (w : World) (hb : Buf base w v bs) (hbase : base ≤ w.heap.size) (hl : (bs ++ bytR 0 []).length ≤ 140737488355328) :
    Calls Try.prog 57 #[v, .slice A 0 c, (.func (.func 58) #[] #[])] w (BufPost base v (bs ++ bytR 0 []) w) := by
  have hst := BufSt.start hb hbase
  have HST0 := Lib.hid hst
  have hll : bs ++ bytR 0 [] = bs ++ bytZ ((0 : Nat) : Int) := by simp [bytR, bytL]
  rw [hll] at hl ⊢
  have HL0 := Lib.hid hl
  have HNI : Hid (I64 ((0 : Nat) : Int)) := by constructor <;> decide
  clear hb hbase hl hst hll
  go_enter Try.func57, Try.ntmps57
  go_wp2_with fail
  refine (putNumber_any base bs v ((0 : Nat) : Int) _ HST0.out.buf HNI.out HST0.out.size HL0.out).mono ?_
  intro e w1 hp
  obtain ⟨v1, rfl, hs1⟩ := HST0.out.step hp
  have HQ := Lib.hid hs1.post
  clear hp hs1
  go_wp2_with fail
  go_loopg [0, 15] 0 (fun g b i wr => b = v1 ∧ i = .int .i64 0 ∧ Hid (wr = w1))
  case atStart => exact ⟨rfl, rfl, rfl⟩
  case round =>
    obtain ⟨rfl, rfl, HE⟩ := hrel
    have he := HE.out
    subst he
    clear HE
    go_wp2_with fail
    go_ret
    exact HQ.out
theorem putSends_at (base : Nat) (bs : List Nat) (v0 v : Value) (zs : List Int) (A : Option Addr) (n c : Nat) (w0 w : World) (hst : BufSt base v0 w0 w v bs) (hz : RwAt w0 4 (zs.map (Value.int .i64)) A n) (ha : 0 < n → Away base v0 A) (hi : ∀ z ∈ zs, I64 z) (hl : (bs ++ bytR n zs).length ≤ 140737488355328) (hn : n ≤ 1099511627776) :
    Calls Try.prog 57 #[v, .slice A n c, (.func (.func 58) #[] #[])] w (BufPost base v (bs ++ bytR n zs) w) := by
  rcases Nat.eq_zero_or_pos n with h0 | h0
  · subst h0
    have hzs : zs = [] := List.eq_nil_of_length_eq_zero (by have := hz.1; rw [List.length_map] at this; omega)
    subst hzs
    exact putSends_zero base bs v A c w hst.buf hst.size hl
  · exact putSends_any base bs v zs A n c w hst.buf (hz.grew (by decide) hst.grew (ha h0)) (away_of hz (by decide) h0 (ha h0) hst.moved) hi hst.size hl hn

set_option maxHeartbeats 1000000 in
set_option maxRecDepth 100000 in
theorem putOutputs_zero (base : Nat) (bs : List Nat) (v : Value) (A : Option Addr) (c : Nat) (w : World) (hb : Buf base w v bs) (hbase : base ≤ w.heap.size) (hl : (bs ++ bytR 0 []).length ≤ 140737488355328) :
    Calls Try.prog 59 #[v, .slice A 0 c, (.func (.func 60) #[] #[])] w (BufPost base v (bs ++ bytR 0 []) w) := by
  have hst := BufSt.start hb hbase
  have HST0 := Lib.hid hst
  have hll : bs ++ bytR 0 [] = bs ++ bytZ ((0 : Nat) : Int) := by simp [bytR, bytL]
  rw [hll] at hl ⊢
  have HL0 := Lib.hid hl
  have HNI : Hid (I64 ((0 : Nat) : Int)) := by constructor <;> decide
  clear hb hbase hl hst hll
  go_enter Try.func59, Try.ntmps59
  go_wp2_with fail
  refine (putNumber_any base bs v ((0 : Nat) : Int) _ HST0.out.buf HNI.out HST0.out.size HL0.out).mono ?_
  intro e w1 hp
  obtain ⟨v1, rfl, hs1⟩ := HST0.out.step hp
  have HQ := Lib.hid hs1.post
  clear hp hs1
  go_wp2_with fail
  go_loopg [0, 15] 0 (fun g b i wr => b = v1 ∧ i = .int .i64 0 ∧ Hid (wr = w1))
  case atStart => exact ⟨rfl, rfl, rfl⟩
  case round =>
    obtain ⟨rfl, rfl, HE⟩ := hrel
    have he := HE.out
    subst he
    clear HE
    go_wp2_with fail
    go_ret
    exact HQ.out
theorem putOutputs_at (base : Nat) (bs : List Nat) (v0 v : Value) (zs : List Int) (A : Option Addr) (n c : Nat) (w0 w : World) (hst : BufSt base v0 w0 w v bs) (hz : RwAt w0 2 (zs.map (Value.int .i64)) A n) (ha : 0 < n → Away base v0 A) (hi : ∀ z ∈ zs, I64 z) (hl : (bs ++ bytR n zs).length ≤ 140737488355328) (hn : n ≤ 1099511627776) :
    Calls Try.prog 59 #[v, .slice A n c, (.func (.func 60) #[] #[])] w (BufPost base v (bs ++ bytR n zs) w) := by
  rcases Nat.eq_zero_or_pos n with h0 | h0
  · subst h0
    have hzs : zs = [] := List.eq_nil_of_length_eq_zero (by have := hz.1; rw [List.length_map] at this; omega)
    subst hzs
    exact putOutputs_zero base bs v A c w hst.buf hst.size hl
  · exact putOutputs_any base bs v zs A n c w hst.buf (hz.grew (by decide) hst.grew (ha h0)) (away_of hz (by decide) h0 (ha h0) hst.moved) hi hst.size hl hn

theorem rw_at {base n k : Nat} {v0 v : Value} {w0 w : World} {cs : List Value} {bs : List Nat} {A : Option Addr} (hz : RwAt w0 k cs A n) (hst : BufSt base v0 w0 w v bs) (ha : 0 < n → Away base v0 A) (hk : 0 < k := by decide) : RwAt w k cs A n := by
  rcases Nat.eq_zero_or_pos n with h0 | h0
  · subst h0; exact ⟨hz.1, fun h => absurd h (by decide)⟩
  · exact hz.grew hk hst.grew (ha h0)
/-- Not the block of v's own, or below base. -/
def Asd (base : Nat) (v : Value) : Nat → Prop := fun b => b < base ∨ v.ownBlock ≠ some b
/-- The numbers of pages are ints of 64 bits; their cells are few. -/
def PgOk (ps : List Pg) : Prop := ∀ p ∈ ps, I64 p.1 ∧ (∀ z ∈ p.2, I64 z) ∧ p.2.length ≤ 1099511627776

set_option maxHeartbeats 4000000 in
set_option maxRecDepth 100000 in
theorem putPagesL_any (base : Nat) (bs : List Nat) (v : Value) (ps : List Pg) (A : Option Addr) (n c : Nat) (w : World) (hb : Buf base w v bs) (hp : PgAt (Asd base v) w ps A n) (hi : PgOk ps) (hbase : base ≤ w.heap.size) (hl : (bs ++ bytZ n ++ bytP ps).length ≤ 140737488355328) (hn : n ≤ 1099511627776) :
    Calls Try.prog 35 #[v, .slice A n c, (.func (.func 36) #[] #[])] w (BufPost base v (bs ++ bytZ n ++ bytP ps) w) := by
  have HN : Hid (ps.length = n) := hp.1.symm
  have hst := BufSt.start hb hbase
  have HST0 := Lib.hid hst
  have HL := Lib.hid hl
  have HL0 : Hid ((bs ++ bytZ n).length ≤ 140737488355328) := by rw [List.length_append] at hl; show _ ≤ _; omega
  have HP0 := Lib.hid hp
  have HI := Lib.hid hi
  have HNI : Hid (I64 (n : Int)) := by constructor <;> omega
  clear hb hp hi hbase hl hst
  go_enter Try.func35, Try.ntmps35
  go_wp2_with fail
  refine (putNumber_any base bs v n _ HST0.out.buf HNI.out HST0.out.size HL0.out).mono ?_
  intro e w1 hp
  obtain ⟨v1, rfl, hs1⟩ := HST0.out.step hp
  have HS1 : Hid (BufSt base v w w1 v1 (bs ++ bytZ n ++ bytP (ps.take 0))) := by show BufSt _ _ _ _ _ _; simpa [bytP] using hs1
  clear hp hs1
  go_wp2_with fail
  go_loopg [0, 15] n (fun g b i wr => ∃ k : Nat, k + g = n ∧ i = .int .i64 k ∧ Hid (BufSt base v w wr b (bs ++ bytZ n ++ bytP (ps.take k))))
  case atStart => exact ⟨0, by omega, rfl, HS1⟩
  case round =>
    obtain ⟨k, hkg, rfl, HP⟩ := hrel
    cases gk with
    | zero =>
      have hkn : k = n := by omega
      subst hkn
      have hkk : ¬ (k : Int) < (k : Int) := by omega
      have hq := HP.out.post
      rw [List.take_of_length_le (by rw [HN.out]; exact Nat.le_refl _), List.append_assoc] at hq
      have HQ := Lib.hid hq
      clear hq hkg
      go_wp2_with fail
      go_ret
      exact HQ.out
    | succ g =>
      have hlt : (k : Int) < (n : Int) := by omega
      obtain ⟨b, o, p, A', c', rfl, hpk, y0', y1', hpc, hzs⟩ := HP0.out.get (i := k) (by omega)
      have hSb : Asd base v b := by
        obtain ⟨_, _, ss, _, h4⟩ := HP0.out
        obtain ⟨b', o', e, hS, _⟩ := h4 (by omega)
        cases e
        exact hS
      have hbk := HP.out.grew.block b (World.block_lt_of_cell? _ _ y0') hSb
      have y0 := (World.cell?_of_block (w := w) (a := ⟨b, o + k * 2, none⟩) hbk).trans y0'
      have y1 := (World.cell?_of_block (w := w) (a := ⟨b, o + k * 2 + 1, none⟩) hbk).trans y1'
      obtain ⟨z, zs⟩ := p
      have hpi := HI.out _ (List.mem_of_getElem? hpk)
      have HZI : Hid (I64 z) := hpi.1
      have HCI : Hid (∀ x ∈ zs, I64 x) := hpi.2.1
      have hcl := hpi.2.2
      have HTK : Hid (bytP (ps.take (k + 1)) = bytP (ps.take k) ++ (bytZ z ++ bytR zs.length zs)) := bytP_take ps k _ hpk
      have hrw := hzs.at.rw
      have HAW : Hid (0 < zs.length → Away base v A') := fun h0 b1 o1 e => by
        obtain ⟨b2, o2, e2, hS2, _⟩ := hzs.2 h0
        rw [e] at e2
        cases e2
        exact hS2
      have HRW := Lib.hid hrw
      have HRL : Hid ((bs ++ bytZ n ++ bytP (ps.take k) ++ bytZ z ++ bytR zs.length zs).length ≤ 140737488355328) := by
        have h1 := HL.out
        have h2 := bytP_le ps (k + 1)
        rw [HTK.out] at h2
        simp only [List.length_append] at h1 h2
        show _ ≤ _
        simp only [List.length_append]
        omega
      have hbw := World.block_lt_of_cell? _ _ y0
      have HG := Lib.hid hkg
      simp only at y0 y1
      clear hpk hkg y0' y1' hpc hzs hSb hbk hpi hrw
      go_wp2_with fail
      refine (putPage_any base _ _ z zs A' zs.length c' _ (HP.out.alloc _).buf (rw_at HRW.out (HP.out.alloc _) HAW.out) (fun h0 => away_of HRW.out (by decide) h0 (HAW.out h0) HP.out.moved) HZI.out HCI.out (HP.out.alloc _).size HRL.out hcl).mono ?_
      intro e w9 hp
      obtain ⟨v9, rfl, hs9⟩ := (HP.out.alloc _).step hp
      have HS9 : Hid (BufSt base v w w9 v9 (bs ++ bytZ n ++ bytP (ps.take (k + 1)))) := by
        show BufSt _ _ _ _ _ _
        rw [HTK.out]
        simpa only [List.append_assoc] using hs9
      clear hp hs9
      go_wp2_with fail
      go_roundg g
      case rel => exact ⟨k + 1, by have := HG.out; omega, by go_num, HS9⟩
      case measure => omega

set_option maxHeartbeats 4000000 in
set_option maxRecDepth 100000 in
theorem putState_any (base : Nat) (bs : List Nat) (v : Value) (z0 : List Int) (A0 : Option Addr) (n0 c0 : Nat) (z1 : List Int) (A1 : Option Addr) (n1 c1 : Nat) (z2 : List Int) (A2 : Option Addr) (n2 c2 : Nat) (z3 : List Int) (A3 : Option Addr) (n3 c3 : Nat) (w : World) (hb : Buf base w v bs) (h0 : RwAt w 1 (z0.map (Value.int .i64)) A0 n0) (a0 : 0 < n0 → Away base v A0) (i0 : ∀ z ∈ z0, I64 z) (l0 : n0 ≤ 1099511627776) (h1 : RwAt w 7 (z1.map (Value.int .i64)) A1 n1) (a1 : 0 < n1 → Away base v A1) (i1 : ∀ z ∈ z1, I64 z) (l1 : n1 ≤ 1099511627776) (h2 : RwAt w 4 (z2.map (Value.int .i64)) A2 n2) (a2 : 0 < n2 → Away base v A2) (i2 : ∀ z ∈ z2, I64 z) (l2 : n2 ≤ 1099511627776) (h3 : RwAt w 2 (z3.map (Value.int .i64)) A3 n3) (a3 : 0 < n3 → Away base v A3) (i3 : ∀ z ∈ z3, I64 z) (l3 : n3 ≤ 1099511627776) (hbase : base ≤ w.heap.size) (hl : (bs ++ bytR n0 z0 ++ bytR n1 z1 ++ bytR n2 z2 ++ bytR n3 z3).length ≤ 140737488355328) :
    Calls Try.prog 37 #[v, .agg #[.slice A0 n0 c0, .slice A1 n1 c1, .slice A2 n2 c2, .slice A3 n3 c3]] w (BufPost base v (bs ++ bytR n0 z0 ++ bytR n1 z1 ++ bytR n2 z2 ++ bytR n3 z3) w) := by
  obtain ⟨nb, hnb⟩ : ∃ x, w.heap.size = x := ⟨_, rfl⟩
  obtain ⟨W, hW⟩ : ∃ x, (w.alloc (.cells #[.slice A0 n0 c0, .slice A1 n1 c1, .slice A2 n2 c2, .slice A3 n3 c3] 43)) = x := ⟨_, rfl⟩
  have hbw : Below w.heap.size w W := by rw [← hW]; exact rp_one1 _ _
  have hst : BufSt base v w W v bs := by rw [← hW]; exact (BufSt.start hb hbase).alloc _
  have HB : Hid (W.heap[nb]? = some (.cells #[.slice A0 n0 c0, .slice A1 n1 c1, .slice A2 n2 c2, .slice A3 n3 c3] 43 (0, 0))) := by show _ = _; rw [← hW, ← hnb]; exact new_blk _ _
  have HV : Hid (v.ownBlock ≠ some nb) := fun e => by have := hb.lt e hbase; omega
  have HS0 := Lib.hid (BufSt.start hst.buf hst.size)
  have HST0 := Lib.hid hst
  have HZ0 := Lib.hid (h0.below (by decide) hbw)
  have HA0 := Lib.hid a0
  have HI0 := Lib.hid i0
  have HL0 : Hid ((bs ++ bytR n0 z0).length ≤ 140737488355328) := by simp only [List.length_append] at hl; show _ ≤ _; simp only [List.length_append]; omega
  have HZ1 := Lib.hid (h1.below (by decide) hbw)
  have HA1 := Lib.hid a1
  have HI1 := Lib.hid i1
  have HL1 : Hid ((bs ++ bytR n0 z0 ++ bytR n1 z1).length ≤ 140737488355328) := by simp only [List.length_append] at hl; show _ ≤ _; simp only [List.length_append]; omega
  have HZ2 := Lib.hid (h2.below (by decide) hbw)
  have HA2 := Lib.hid a2
  have HI2 := Lib.hid i2
  have HL2 : Hid ((bs ++ bytR n0 z0 ++ bytR n1 z1 ++ bytR n2 z2).length ≤ 140737488355328) := by simp only [List.length_append] at hl; show _ ≤ _; simp only [List.length_append]; omega
  have HZ3 := Lib.hid (h3.below (by decide) hbw)
  have HA3 := Lib.hid a3
  have HI3 := Lib.hid i3
  have HL3 : Hid ((bs ++ bytR n0 z0 ++ bytR n1 z1 ++ bytR n2 z2 ++ bytR n3 z3).length ≤ 140737488355328) := by simp only [List.length_append] at hl; show _ ≤ _; simp only [List.length_append]; omega
  clear hst hb hbase hl hbw h0 a0 i0 h1 a1 i1 h2 a2 i2 h3 a3 i3
  go_enter Try.func37, Try.ntmps37
  go_upto_region 1 with fail
  try simp only [hW, hnb]
  clear hW hnb
  obtain ⟨d0, d1, d2, d3⟩ := box4' ((HS0.out.grew.block nb (lt_of_block HB.out) (.inr HV.out)).trans HB.out)
  go_wp2_with fail
  refine (putInts_at base _ _ _ z0 A0 n0 c0 _ _ HS0.out HZ0.out HA0.out HI0.out HL0.out l0).mono ?_
  intro e w1 hp
  obtain ⟨v1, rfl, hs⟩ := HS0.out.step hp
  have HS1 := Lib.hid hs
  clear hp hs d0 d1 d2 d3
  obtain ⟨d0, d1, d2, d3⟩ := box4' ((HS1.out.grew.block nb (lt_of_block HB.out) (.inr HV.out)).trans HB.out)
  go_wp2_with fail
  refine (putEvents_at base _ _ _ z1 A1 n1 c1 _ _ HS1.out HZ1.out HA1.out HI1.out HL1.out l1).mono ?_
  intro e w2 hp
  obtain ⟨v2, rfl, hs⟩ := HS1.out.step hp
  have HS2 := Lib.hid hs
  clear hp hs d0 d1 d2 d3
  obtain ⟨d0, d1, d2, d3⟩ := box4' ((HS2.out.grew.block nb (lt_of_block HB.out) (.inr HV.out)).trans HB.out)
  go_wp2_with fail
  refine (putSends_at base _ _ _ z2 A2 n2 c2 _ _ HS2.out HZ2.out HA2.out HI2.out HL2.out l2).mono ?_
  intro e w3 hp
  obtain ⟨v3, rfl, hs⟩ := HS2.out.step hp
  have HS3 := Lib.hid hs
  clear hp hs d0 d1 d2 d3
  obtain ⟨d0, d1, d2, d3⟩ := box4' ((HS3.out.grew.block nb (lt_of_block HB.out) (.inr HV.out)).trans HB.out)
  go_wp2_with fail
  refine (putOutputs_at base _ _ _ z3 A3 n3 c3 _ _ HS3.out HZ3.out HA3.out HI3.out HL3.out l3).mono ?_
  intro e w4 hp
  obtain ⟨v4, rfl, hs⟩ := HS3.out.step hp
  have HS4 := Lib.hid hs
  clear hp hs d0 d1 d2 d3
  have HQ : Hid (BufPost base v (bs ++ bytR n0 z0 ++ bytR n1 z1 ++ bytR n2 z2 ++ bytR n3 z3) w (.returned v4) w4) := HST0.out.over HS4.out.post
  go_wp2_with fail
  go_ret
  exact HQ.out
end Go.Proofs.Ytadikcioacaphaa
