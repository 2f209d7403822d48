/-
  What putPage, putState, and PutEvent, PutDet, PutPages, PutState of package codec return (gens93.py writes this text). Conditions: all bytes together number at most 2^47; at most 2^40 elements each.
-/
import Derived.Test.YtadikcioacaphaaWalkPL
import Derived.Test.YtadikcioacaphaaWalkPi
import Derived.Test.YtadikcioacaphaaWalkPm
namespace Go.Proofs.Ytadikcioacaphaa
open Go.RowKit

theorem bytP_take : ∀ (ps : List Pg) (k : Nat) (p : Pg), ps[k]? = some p → bytP (ps.take (k + 1)) = bytP (ps.take k) ++ (bytZ p.1 ++ bytR p.2.length p.2)
  | [], k, p, h => by simp at h
  | q :: r, 0, p, h => by
    simp only [List.getElem?_cons_zero, Option.some.injEq] at h
    subst h
    simp [bytP]
  | q :: r, k + 1, p, h => by
    simp only [List.getElem?_cons_succ] at h
    have := bytP_take r k p h
    simp only [List.take_succ_cons, bytP, this, List.append_assoc]
theorem bytP_le : ∀ (ps : List Pg) (k : Nat), (bytP (ps.take k)).length ≤ (bytP ps).length
  | [], k => by simp [bytP]
  | q :: r, 0 => by simp [bytP]
  | q :: r, k + 1 => by
    have := bytP_le r k
    simp only [List.take_succ_cons, bytP, List.length_append] at this ⊢
    omega
theorem ZsAt.rw {w : World} {zs : List Int} {A : Option Addr} {n : Nat} (h : ZsAt w zs A n) : RwAt w 1 (zs.map (Value.int .i64)) A n := by
  obtain ⟨h1, h2, h3⟩ := h
  refine ⟨by rw [List.length_map, Nat.mul_one, h1], fun h0 => ?_⟩
  obtain ⟨b, o, hA, hi⟩ := h3 h0
  refine ⟨b, o, hA, fun j u hj => ?_⟩
  have hjl := (List.getElem?_eq_some_iff.1 hj).1
  rw [List.length_map] at hjl
  rw [hi j (by omega)]
  rw [List.getElem?_map, List.getElem?_eq_getElem hjl] at hj
  rw [List.getD_eq_getElem?_getD, List.getElem?_eq_getElem hjl]
  exact hj

set_option maxHeartbeats 1000000 in
set_option maxRecDepth 100000 in
theorem putInts_zero (base : Nat) (bs : List Nat) (v : Value) (A : Option Addr) (c : Nat) (w : World) (hb : Buf base w v bs) (hbase : base ≤ w.heap.size) (hl : (bs ++ bytR 0 []).length ≤ 140737488355328) :
    Calls Try.prog 55 #[v, .slice A 0 c, (.func (.func 30) #[] #[])] w (BufPost base v (bs ++ bytR 0 []) w) := by
  have hst := BufSt.start hb hbase
  have HST0 := Lib.hid hst
  have hll : bs ++ bytR 0 [] = bs ++ bytZ ((0 : Nat) : Int) := by simp [bytR, bytL]
  rw [hll] at hl ⊢
  have HL0 := Lib.hid hl
  have HNI : Hid (I64 ((0 : Nat) : Int)) := by constructor <;> decide
  clear hb hbase hl hst hll
  go_enter Try.func55, Try.ntmps55
  go_wp2_with fail
  refine (putNumber_any base bs v ((0 : Nat) : Int) _ HST0.out.buf HNI.out HST0.out.size HL0.out).mono ?_
  intro e w1 hp
  obtain ⟨v1, rfl, hs1⟩ := HST0.out.step hp
  have HQ := Lib.hid hs1.post
  clear hp hs1
  go_wp2_with fail
  go_loopg [0, 15] 0 (fun g b i wr => b = v1 ∧ i = .int .i64 0 ∧ Hid (wr = w1))
  case atStart => exact ⟨rfl, rfl, rfl⟩
  case round =>
    obtain ⟨rfl, rfl, HE⟩ := hrel
    have he := HE.out
    subst he
    clear HE
    go_wp2_with fail
    go_ret
    exact HQ.out
/-- putList of numbers, of a list that lies anywhere beside the bytes. -/
theorem putInts_at (base : Nat) (bs : List Nat) (v0 v : Value) (zs : List Int) (A : Option Addr) (n c : Nat) (w0 w : World) (hst : BufSt base v0 w0 w v bs) (hz : RwAt w0 1 (zs.map (Value.int .i64)) A n) (ha : 0 < n → Away base v0 A) (hi : ∀ z ∈ zs, I64 z) (hl : (bs ++ bytR n zs).length ≤ 140737488355328) (hn : n ≤ 1099511627776) :
    Calls Try.prog 55 #[v, .slice A n c, (.func (.func 30) #[] #[])] w (BufPost base v (bs ++ bytR n zs) w) := by
  rcases Nat.eq_zero_or_pos n with h0 | h0
  · subst h0
    have hzs : zs = [] := List.eq_nil_of_length_eq_zero (by have := hz.1; rw [List.length_map] at this; omega)
    subst hzs
    exact putInts_zero base bs v A c w hst.buf hst.size hl
  · have hz' : RwAt w 1 (zs.map (Value.int .i64)) A n := hz.grew (by decide) hst.grew (ha h0)
    refine putInts_any base bs v zs A n c w hst.buf hz' ?_ hi hst.size hl hn
    intro b o e
    obtain ⟨b', o', e', hc⟩ := hz.2 h0
    rw [e] at e'
    cases e'
    have hlt : b < w0.heap.size := by
      obtain ⟨u, r, e2⟩ := List.exists_cons_of_length_pos (show 0 < (zs.map (Value.int .i64)).length by have := hz.1; omega)
      rw [e2] at hc
      exact hc.lt
    rcases ha h0 b o e with h | h
    · exact .inl h
    · right
      rcases hst.moved with e2 | ⟨k, hk, e2⟩
      · rw [e2]; exact h
      · rw [e2]; intro e3; injection e3 with e3; omega

set_option maxHeartbeats 4000000 in
set_option maxRecDepth 100000 in
theorem putPage_any (base : Nat) (bs : List Nat) (v : Value) (z : Int) (zs : List Int) (A : Option Addr) (n c : Nat) (w : World) (hb : Buf base w v bs) (hz : RwAt w 1 (zs.map (Value.int .i64)) A n) (ha : 0 < n → Away base v A) (hzi : I64 z) (hi : ∀ z ∈ zs, I64 z) (hbase : base ≤ w.heap.size) (hl : (bs ++ bytZ z ++ bytR n zs).length ≤ 140737488355328) (hn : n ≤ 1099511627776) :
    Calls Try.prog 36 #[v, .agg #[.int .i64 z, .slice A n c]] w (BufPost base v (bs ++ bytZ z ++ bytR n zs) w) := by
  obtain ⟨nb, hnb⟩ : ∃ x, w.heap.size = x := ⟨_, rfl⟩
  obtain ⟨W, hW⟩ : ∃ x, (w.alloc (.cells #[.int .i64 z, .slice A n c] 70)) = x := ⟨_, rfl⟩
  have hst : BufSt base v w W v bs := by rw [← hW]; exact (BufSt.start hb hbase).alloc _
  have HB : Hid (W.heap[nb]? = some (.cells #[.int .i64 z, .slice A n c] 70 (0, 0))) := by show _ = _; rw [← hW, ← hnb]; exact new_blk _ _
  have HV : Hid (∀ k, v.ownBlock = some k → k < nb) := fun k hk => by have := hb.lt hk hbase; omega
  have HST := Lib.hid (BufSt.start hst.buf hst.size)
  have HST0 := Lib.hid hst
  have HZ : Hid (RwAt W 1 (zs.map (Value.int .i64)) A n) := by show RwAt _ _ _ _ _; rw [← hW]; exact hz.below (by decide) (rp_one1 _ _)
  have HA := Lib.hid ha
  have HI := Lib.hid hi
  have HZI : Hid (I64 z) := hzi
  have HL := Lib.hid hl
  have HL1 : Hid ((bs ++ bytZ z).length ≤ 140737488355328) := by rw [List.length_append] at hl; show _ ≤ _; omega
  clear hst hb hz ha hi hzi hl hbase
  go_enter Try.func36, Try.ntmps36
  go_upto_region 1 with fail
  try simp only [hW, hnb]
  clear hW hnb
  have HK : Hid (∀ W', Grew base v W W' → Grew base v W W' ∧ W'.cell? ⟨nb, 0, none⟩ = some (.int .i64 z) ∧ W'.cell? ⟨nb, 1, none⟩ = some (.slice A n c)) := fun W' hg => ⟨hg, box2' ((hg.block nb (lt_of_block HB.out) (.inr fun e => by have := HV.out nb e; omega)).trans HB.out)⟩
  go_region_held3 (fun w' => Grew base v W w' ∧ w'.cell? ⟨nb, 0, none⟩ = some (.int .i64 z) ∧ w'.cell? ⟨nb, 1, none⟩ = some (.slice A n c)) (exact HK.out _ (by first | assumption | exact Grew.of_below (below_drew1 _))) (first | (go_at_call 30; refine (putNumber_any base bs v z _ HST.out.drew.buf HZI.out HST.out.drew.size HL1.out).mono ?_; intro e w9 hp; obtain ⟨v9, rfl, hs9⟩ := HST.out.drew.step hp; have HS9 := Lib.hid hs9; have HG9 : Grew base v W w9 := hs9.grew; clear hp hs9) | (go_at_call 55; refine (putInts_at base _ _ _ zs A n c _ _ HS9.out HZ.out HA.out HI.out HL.out hn).mono ?_; intro e w10 hp; obtain ⟨v10, rfl, hs10⟩ := HS9.out.step hp; have HS10 := Lib.hid hs10; have HG10 : Grew base v W w10 := hs10.grew; clear hp hs10))
  have HQ : Hid (BufPost base v (bs ++ bytZ z ++ bytR n zs) w (.returned v10) w10) := HST0.out.over HS10.out.post
  go_wp2_with fail
  go_ret
  exact HQ.out
end Go.Proofs.Ytadikcioacaphaa
