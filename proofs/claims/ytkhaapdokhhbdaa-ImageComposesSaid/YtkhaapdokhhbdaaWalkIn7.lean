/-
  What insert of the document's answer returns: a new list with the page behind those that have no greater number. Conditions: at most 2000 pages.
-/
import Derived.Test.YtkhaapdokhhbdaaWalkLa7
namespace Go.Proofs.Ytkhaapdokhhbdaa
open Go.RowKit

theorem pgC_take : ∀ (ps : List Pg) (ss : List Sl) (k : Nat), ss.length = ps.length → (pgC ps ss).take (k * 2) = pgC (ps.take k) (ss.take k)
  | [], [], k, _ => by simp [pgC]
  | p :: r, s :: t, 0, _ => by simp [pgC]
  | p :: r, s :: t, k + 1, h => by
    simp only [List.length_cons] at h
    rw [show (k + 1) * 2 = k * 2 + 1 + 1 by omega]
    simp only [pgC, List.take_succ_cons, pgC_take r t k (by omega)]
theorem pgC_drop : ∀ (ps : List Pg) (ss : List Sl) (k : Nat), ss.length = ps.length → (pgC ps ss).drop (k * 2) = pgC (ps.drop k) (ss.drop k)
  | [], [], k, _ => by simp [pgC]
  | p :: r, s :: t, 0, _ => by simp
  | p :: r, s :: t, k + 1, h => by
    simp only [List.length_cons] at h
    rw [show (k + 1) * 2 = k * 2 + 1 + 1 by omega]
    simp only [pgC, List.drop_succ_cons, pgC_drop r t k (by omega)]
theorem PgIn.low {w : World} {ps : List Pg} {ss : List Sl} {A : Option Addr} {n : Nat} (h : PgIn w ps ss A n) {k : Nat} (hk : k ≤ n) : RwAt w 2 (pgC (ps.take k) (ss.take k)) A k := by
  rw [← pgC_take _ _ _ h.all.len]
  refine ⟨by rw [List.length_take, h.row.1]; omega, fun h0 => ?_⟩
  obtain ⟨b, o, hA, hc⟩ := h.row.2 (by omega)
  refine ⟨b, o, hA, fun j u hj => hc j u ?_⟩
  have hlt : j < k * 2 := by have := (List.getElem?_eq_some_iff.1 hj).1; rw [List.length_take] at this; omega
  rwa [List.getElem?_take_of_lt hlt] at hj
theorem PgIn.high {w : World} {ps : List Pg} {ss : List Sl} {b o n : Nat} (h : PgIn w ps ss (some ⟨b, o, none⟩) n) {k : Nat} (hk : k ≤ n) : RwAt w 2 (pgC (ps.drop k) (ss.drop k)) (some ⟨b, o + k * 2, none⟩) (n - k) := by
  rw [← pgC_drop _ _ _ h.all.len]
  refine ⟨by rw [List.length_drop, h.row.1]; omega, fun h0 => ?_⟩
  obtain ⟨b', o', hA, hc⟩ := h.row.2 (by omega)
  injection hA with hA
  injection hA with e1 e2 _
  subst e1 e2
  refine ⟨b, _, rfl, fun j u hj => ?_⟩
  rw [List.getElem?_drop] at hj
  have := hc _ u hj
  rwa [← Nat.add_assoc] at this
theorem size_of {w W : World} (h : Below w.heap.size w W) : w.heap.size ≤ W.heap.size := h.size
theorem rw_none (w : World) (A : Option Addr) : RwAt w 2 [] A 0 := ⟨rfl, fun h => absurd h (by decide)⟩
/-- What insert gives. -/
def InPost (w : World) (n : Nat) (ps : List Pg) (p : Pg) (e : Ending) (w' : World) : Prop :=
  ∃ k A' c' ss', k ≤ n ∧ (∀ q ∈ ps.drop k, p.1 < q.1) ∧ (k = 0 ∨ ∃ q, ps[k - 1]? = some q ∧ q.1 ≤ p.1) ∧ e = .returned (.slice A' (n + 1) c') ∧ PgIn w' (ps.take k ++ p :: ps.drop k) ss' A' (n + 1) ∧ n + 1 ≤ c' ∧ Below w.heap.size w w'
theorem in_page {w : World} {n : Int} {A : Option Addr} {L c : Nat} {T : TypeId} : RwAt (w.alloc (.cells #[.int .i64 n, .slice A L c] T)) 2 [.int .i64 n, .slice A L c] (some ⟨w.heap.size, 0, none⟩) 1 :=
  ⟨rfl, fun _ => ⟨_, _, rfl, new_cells w [.int .i64 n, .slice A L c] T⟩⟩
theorem InPost.of {w W' : World} {n k : Nat} {ps : List Pg} {ss : List Sl} {p : Pg} {s : Sl} {A V : Option Addr} {vc base L N2 : Nat} (h : PgIn w ps ss A n) (hs : p.2.length ≤ s.2 ∧ ZsS (fun b => b < w.heap.size) w p.2 s.1) (hk : k ≤ n) (h1 : ∀ q ∈ ps.drop k, p.1 < q.1) (h2 : k = 0 ∨ ∃ q, ps[k - 1]? = some q ∧ q.1 ≤ p.1)
    (hN : N2 = n - k) (hL : p.2.length = L) (hb : Below w.heap.size w W') (ho : W'.ownsRow base 37 2 (.slice V (k + 1 + N2) vc) (k + 1 + N2) (pgC (ps.take k) (ss.take k) ++ [.int .i64 p.1, .slice s.1 L s.2] ++ pgC (ps.drop k) (ss.drop k))) :
    InPost w n ps p (.returned (.slice V (k + 1 + N2) vc)) W' := by
  subst hL
  have e : k + 1 + N2 = n + 1 := by omega
  rw [e] at ho ⊢
  have hall : PgAll (fun b => b < W'.heap.size) W' ps ss := h.all.still fun b hS hlt => ⟨Nat.lt_of_lt_of_le hlt hb.size, hb.block b hlt⟩
  have hall2 := PgAll.app (hall.cut k).1 (show PgAll (fun b => b < W'.heap.size) W' (p :: ps.drop k) (s :: ss.drop k) from ⟨⟨hs.1, hs.2.still fun b hS hlt => ⟨Nat.lt_of_lt_of_le hlt hb.size, hb.block b hlt⟩⟩, (hall.cut k).2⟩)
  have hc : pgC (ps.take k) (ss.take k) ++ [.int .i64 p.1, .slice s.1 p.2.length s.2] ++ pgC (ps.drop k) (ss.drop k) = pgC (ps.take k ++ p :: ps.drop k) (ss.take k ++ s :: ss.drop k) := by
    rw [pgC_app _ _ _ _ (by rw [List.length_take, List.length_take, h.all.len]), List.append_assoc]
    rfl
  rw [hc] at ho
  have hl : n + 1 ≤ vc := by
    rcases ho.2 with ⟨_, h0⟩ | ⟨g, cap, cur, e, _, _, hle, _⟩
    · omega
    · injection e with _ _ e3
      omega
  exact ⟨k, V, vc, _, hk, h1, h2, rfl, ⟨by rw [List.length_append, List.length_cons, List.length_take, List.length_drop, ← h.len]; omega, RwAt.own ho, hall2⟩, hl, hb⟩

set_option maxHeartbeats 4000000 in
set_option maxRecDepth 100000 in
theorem insert_some (ps : List Pg) (ss : List Sl) (p : Pg) (s : Sl) (b o n c : Nat) (w : World) (h : PgIn w ps ss (some ⟨b, o, none⟩) n) (hnc : n ≤ c) (hn : n ≤ 2000) (hs : p.2.length ≤ s.2 ∧ ZsS (fun b => b < w.heap.size) w p.2 s.1) :
    Calls Try.prog 34 #[.slice (some ⟨b, o, none⟩) n c, .agg #[.int .i64 p.1, .slice s.1 p.2.length s.2]] w (InPost w n ps p) := by
  obtain ⟨i0, hi, hz0, hz1, hz2⟩ := info_parts infoPg
  have HI := Lib.hid hi
  have HI0 := Lib.hid hz0
  have HI1 := Lib.hid hz1
  have HI2 := Lib.hid hz2
  have H := Lib.hid h
  have HSS := Lib.hid hs
  have HLN := Lib.hid h.len
  obtain ⟨pn, pc⟩ := p
  obtain ⟨A1, c1⟩ := s
  simp only
  obtain ⟨l1, hl1⟩ : ∃ x, pc.length = x := ⟨_, rfl⟩
  rw [hl1]
  have HL1 := Lib.hid hl1
  clear hi hz0 hz1 hz2 h hs hl1
  go_enter Try.func34, Try.ntmps34
  go_wp2_with fail
  obtain ⟨w1, hw1⟩ : ∃ w1, w.alloc (.cells #[.int .i64 pn, .slice A1 l1 c1] 37) = w1 := ⟨_, rfl⟩
  have HX : Hid (w1.heap[w.heap.size]? = some (.cells #[.int .i64 pn, .slice A1 l1 c1] 37 (0, 0))) := hw1 ▸ new_blk w _
  have HB1 : Hid (Below w.heap.size w w1) := hw1 ▸ (Below.refl _ _).alloc (Nat.le_refl _) _
  have HS1 : Hid (w1.heap.size = w.heap.size + 1) := by show _ = _; rw [← hw1, new_size]
  obtain ⟨bx, hbx⟩ : ∃ x, w.heap.size = x := ⟨_, rfl⟩
  have HBX := Lib.hid hbx
  rw [hbx] at HX
  simp only [hw1]
  rw [hbx]
  clear hw1 hbx
  go_loopg [5] n (fun g i wr => i = .int .i64 (g : Nat) ∧ g ≤ n ∧ Hid (∀ q ∈ ps.drop g, pn < q.1) ∧ Hid (∃ j, wr = w1.drewN j))
  case atStart => exact ⟨rfl, Nat.le_refl _, fun q hq => by rw [List.drop_eq_nil_of_le (by have := HLN.out; omega)] at hq; simp at hq, ⟨0, rfl⟩⟩
  case round =>
    obtain ⟨rfl, hgn, HD, HWR⟩ := hrel
    have HBW : Hid (Below w1.heap.size w1 wr) := qb HWR.out
    have HBA : Hid (Below w.heap.size w wr) := HB1.out.trans (HBW.out.mono HB1.out.size)
    have HXR := Lib.hid (below_blk HBW.out HX.out)
    obtain ⟨x0, x1⟩ := pairCells HXR.out
    have HSR : Hid (w.heap.size + 1 ≤ wr.heap.size) := by show _ ≤ _; rw [← HS1.out]; exact HBW.out.size
    cases gk with
    | zero =>
      go_upto_region 2 with fail
      go_quiet (fail)
      obtain ⟨w3, hw3⟩ : ∃ w3, wr.drewN nq = w3 := ⟨_, rfl⟩
      have hb3 : Below wr.heap.size wr w3 := hw3 ▸ below_drewN (Below.refl _ _) nq
      simp only [hw3]
      clear hw3
      have HB3 : Hid (Below w.heap.size w w3) := HBA.out.trans (hb3.mono HBA.out.size)
      have HX3 := Lib.hid (below_blk hb3 HXR.out)
      have HS3 : Hid (bx + 1 ≤ w3.heap.size) := by show _ ≤ _; rw [← HBX.out]; exact Nat.le_trans HSR.out hb3.size
      clear hb3 x0 x1
      have HLO := Lib.hid ((H.out.low (k := 0) (by omega)).below (by decide) HB3.out)
      go_wp2_with (at_builtin; refine wpList_append_rw rfl _ (.tmp 26) 29 rfl (bx + 1) 37 i0 _ 2 32 Try.underlying29 HI.out HI0.out HI1.out HI2.out rfl (by decide) (.slice none 0 0) 0 [] (by simp [Act.eval]) (World.ownsRow_nil _ _ _ _) (some ⟨b, o, none⟩) 0 c (pgC (ps.take 0) (ss.take 0)) (by simp [Act.eval]) HLO.out (fun e => by cases e) (pgC_one _ _) (by unfold maxLen; omega) (by omega) HS3.out ?_; intro v8 w8 hown8 hgrow8 hob8; simp only [Nat.zero_add, List.nil_append] at hown8; obtain ⟨V8, c8, rfl⟩ := own_slice hown8; have HB8 := Lib.hid (below_nil hgrow8); have HO8 := Lib.hid hown8; clear hown8 hgrow8 hob8)
      have HHI : Hid (∀ W, Below w.heap.size w W → RwAt W 2 (pgC (ps.drop 0) (ss.drop 0)) (some ⟨b, o, none⟩) n) := fun W hb => by
        have h := (H.out.high (k := 0) (Nat.zero_le _)).below (by decide) hb
        rw [Nat.zero_mul, Nat.add_zero, Nat.sub_zero] at h
        exact h
      by_cases hcz : c = 0
      · subst hcz
        have hn0 : n = 0 := by omega
        subst hn0
        have HBB8 : Hid (Below w.heap.size w w8) := HB3.out.trans (HB8.out.mono HB3.out.size)
        have HX8 := Lib.hid (below_blk HB8.out HX3.out)
        have HS8 : Hid (bx + 1 ≤ w8.heap.size) := by show _ ≤ _; exact Nat.le_trans HS3.out HB8.out.size
        obtain ⟨x0, x1⟩ := pairCells HX8.out
        go_region_law (first
          | (refine step_append_rw rfl (.tmp 28) (.tmp 30) 29 rfl (bx + 1) 37 i0 _ 2 32 Try.underlying29 HI.out HI0.out HI1.out HI2.out rfl (by decide) (.slice V8 0 c8) 0 (pgC (ps.take 0) (ss.take 0)) (by simp [Act.eval]) (own_bel HO8.out (by first | exact (Below.refl _ _).alloc (Nat.le_refl _) _ | exact (Below.refl _ _).drew.alloc (Nat.le_refl _) _ | exact ((Below.refl _ _).alloc (Nat.le_refl _) _).drew | exact ((Below.refl _ _).drew.alloc (Nat.le_refl _) _).drew)) (some ⟨w8.heap.size, 0, none⟩) 1 1 [.int .i64 pn, .slice A1 l1 c1] (by simp [Act.eval]) (by first | exact in_page | exact in_page.below (by decide) (below_drew1 _)) (fun e => by cases e) (by simp [Value.oneCell']) (by unfold maxLen; omega) (by omega) (Nat.le_trans HS8.out (size_of (by first | exact (Below.refl _ _).alloc (Nat.le_refl _) _ | exact (Below.refl _ _).drew.alloc (Nat.le_refl _) _ | exact ((Below.refl _ _).alloc (Nat.le_refl _) _).drew | exact ((Below.refl _ _).drew.alloc (Nat.le_refl _) _).drew))) ?_; intro v9 w9 hown9 hgrow9 hob9; obtain ⟨V9, c9, rfl⟩ := own_slice hown9; have HB9 : Hid (Below w.heap.size w w9) := below_grow (HBB8.out.trans (Below.mono (by first | exact (Below.refl _ _).alloc (Nat.le_refl _) _ | exact (Below.refl _ _).drew.alloc (Nat.le_refl _) _ | exact ((Below.refl _ _).alloc (Nat.le_refl _) _).drew | exact ((Below.refl _ _).drew.alloc (Nat.le_refl _) _).drew) HBB8.out.size)) hgrow9 (Nat.le_trans HBB8.out.size (size_of (by first | exact (Below.refl _ _).alloc (Nat.le_refl _) _ | exact (Below.refl _ _).drew.alloc (Nat.le_refl _) _ | exact ((Below.refl _ _).alloc (Nat.le_refl _) _).drew | exact ((Below.refl _ _).drew.alloc (Nat.le_refl _) _).drew))) (fun k hk => by have := (HO8.out.lt k hk).1; have := HBX.out; omega); have HS9 : Hid (bx + 1 ≤ w9.heap.size) := Nat.le_trans (Nat.le_trans HS8.out (size_of (by first | exact (Below.refl _ _).alloc (Nat.le_refl _) _ | exact (Below.refl _ _).drew.alloc (Nat.le_refl _) _ | exact ((Below.refl _ _).alloc (Nat.le_refl _) _).drew | exact ((Below.refl _ _).drew.alloc (Nat.le_refl _) _).drew))) hgrow9.size; have HO9 := Lib.hid hown9; clear hown9 hgrow9 hob9)
          | (refine step_append_rw rfl (.tmp 31) (.tmp 34) 29 rfl (bx + 1) 37 i0 _ 2 32 Try.underlying29 HI.out HI0.out HI1.out HI2.out rfl (by decide) (.slice V9 (0 + 1) c9) (0 + 1) _ (by simp [Act.eval]) (own_bel HO9.out (by first | exact Below.refl _ _ | exact (Below.refl _ _).drew)) (some ⟨b, o, none⟩) (0) (0) (pgC (ps.drop 0) (ss.drop 0)) (by simp [Act.eval]) (HHI.out _ (HB9.out.trans (Below.mono (by first | exact Below.refl _ _ | exact (Below.refl _ _).drew) HB9.out.size))) (fun e => by cases e) (pgC_one _ _) (by unfold maxLen; omega) (by omega) (Nat.le_trans HS9.out (size_of (by first | exact Below.refl _ _ | exact (Below.refl _ _).drew))) ?_; intro va wa howna hgrowa hoba; obtain ⟨VA, ca, rfl⟩ := own_slice howna; have HBa : Hid (Below w.heap.size w wa) := below_grow (HB9.out.trans (Below.mono (by first | exact Below.refl _ _ | exact (Below.refl _ _).drew) HB9.out.size)) hgrowa (Nat.le_trans HB9.out.size (size_of (by first | exact Below.refl _ _ | exact (Below.refl _ _).drew))) (fun k hk => by have := (HO9.out.lt k hk).1; have := HBX.out; omega); have HOa := Lib.hid howna; clear howna hgrowa hoba))
        all_goals
          have HQ := Lib.hid (InPost.of (k := 0) (p := (pn, pc)) (s := (A1, c1)) (N2 := 0) H.out HSS.out (by omega) HD.out (.inl rfl) (by omega) HL1.out HBa.out HOa.out)
          go_wp2_with fail
          go_ret
          first | exact HQ.out | (have h := HQ.out; simp only [Nat.zero_add, Nat.add_zero] at h; exact h)
      · have hcz' : ¬ ((c : Int) = 0) := by omega
        have HBB8 : Hid (Below w.heap.size w w8) := HB3.out.trans (HB8.out.mono HB3.out.size)
        have HX8 := Lib.hid (below_blk HB8.out HX3.out)
        have HS8 : Hid (bx + 1 ≤ w8.heap.size) := by show _ ≤ _; exact Nat.le_trans HS3.out HB8.out.size
        obtain ⟨x0, x1⟩ := pairCells HX8.out
        go_region_law (first
          | (refine step_append_rw rfl (.tmp 28) (.tmp 30) 29 rfl (bx + 1) 37 i0 _ 2 32 Try.underlying29 HI.out HI0.out HI1.out HI2.out rfl (by decide) (.slice V8 0 c8) 0 (pgC (ps.take 0) (ss.take 0)) (by simp [Act.eval]) (own_bel HO8.out (by first | exact (Below.refl _ _).alloc (Nat.le_refl _) _ | exact (Below.refl _ _).drew.alloc (Nat.le_refl _) _ | exact ((Below.refl _ _).alloc (Nat.le_refl _) _).drew | exact ((Below.refl _ _).drew.alloc (Nat.le_refl _) _).drew)) (some ⟨w8.heap.size, 0, none⟩) 1 1 [.int .i64 pn, .slice A1 l1 c1] (by simp [Act.eval]) (by first | exact in_page | exact in_page.below (by decide) (below_drew1 _)) (fun e => by cases e) (by simp [Value.oneCell']) (by unfold maxLen; omega) (by omega) (Nat.le_trans HS8.out (size_of (by first | exact (Below.refl _ _).alloc (Nat.le_refl _) _ | exact (Below.refl _ _).drew.alloc (Nat.le_refl _) _ | exact ((Below.refl _ _).alloc (Nat.le_refl _) _).drew | exact ((Below.refl _ _).drew.alloc (Nat.le_refl _) _).drew))) ?_; intro v9 w9 hown9 hgrow9 hob9; obtain ⟨V9, c9, rfl⟩ := own_slice hown9; have HB9 : Hid (Below w.heap.size w w9) := below_grow (HBB8.out.trans (Below.mono (by first | exact (Below.refl _ _).alloc (Nat.le_refl _) _ | exact (Below.refl _ _).drew.alloc (Nat.le_refl _) _ | exact ((Below.refl _ _).alloc (Nat.le_refl _) _).drew | exact ((Below.refl _ _).drew.alloc (Nat.le_refl _) _).drew) HBB8.out.size)) hgrow9 (Nat.le_trans HBB8.out.size (size_of (by first | exact (Below.refl _ _).alloc (Nat.le_refl _) _ | exact (Below.refl _ _).drew.alloc (Nat.le_refl _) _ | exact ((Below.refl _ _).alloc (Nat.le_refl _) _).drew | exact ((Below.refl _ _).drew.alloc (Nat.le_refl _) _).drew))) (fun k hk => by have := (HO8.out.lt k hk).1; have := HBX.out; omega); have HS9 : Hid (bx + 1 ≤ w9.heap.size) := Nat.le_trans (Nat.le_trans HS8.out (size_of (by first | exact (Below.refl _ _).alloc (Nat.le_refl _) _ | exact (Below.refl _ _).drew.alloc (Nat.le_refl _) _ | exact ((Below.refl _ _).alloc (Nat.le_refl _) _).drew | exact ((Below.refl _ _).drew.alloc (Nat.le_refl _) _).drew))) hgrow9.size; have HO9 := Lib.hid hown9; clear hown9 hgrow9 hob9)
          | (refine step_append_rw rfl (.tmp 31) (.tmp 34) 29 rfl (bx + 1) 37 i0 _ 2 32 Try.underlying29 HI.out HI0.out HI1.out HI2.out rfl (by decide) (.slice V9 (0 + 1) c9) (0 + 1) _ (by simp [Act.eval]) (own_bel HO9.out (by first | exact Below.refl _ _ | exact (Below.refl _ _).drew)) (some ⟨b, o, none⟩) (n) (c) (pgC (ps.drop 0) (ss.drop 0)) (by simp [Act.eval]) (HHI.out _ (HB9.out.trans (Below.mono (by first | exact Below.refl _ _ | exact (Below.refl _ _).drew) HB9.out.size))) (fun e => by cases e) (pgC_one _ _) (by unfold maxLen; omega) (by omega) (Nat.le_trans HS9.out (size_of (by first | exact Below.refl _ _ | exact (Below.refl _ _).drew))) ?_; intro va wa howna hgrowa hoba; obtain ⟨VA, ca, rfl⟩ := own_slice howna; have HBa : Hid (Below w.heap.size w wa) := below_grow (HB9.out.trans (Below.mono (by first | exact Below.refl _ _ | exact (Below.refl _ _).drew) HB9.out.size)) hgrowa (Nat.le_trans HB9.out.size (size_of (by first | exact Below.refl _ _ | exact (Below.refl _ _).drew))) (fun k hk => by have := (HO9.out.lt k hk).1; have := HBX.out; omega); have HOa := Lib.hid howna; clear howna hgrowa hoba))
        all_goals
          have HQ := Lib.hid (InPost.of (k := 0) (p := (pn, pc)) (s := (A1, c1)) (N2 := n) H.out HSS.out (by omega) HD.out (.inl rfl) (by omega) HL1.out HBa.out HOa.out)
          go_wp2_with fail
          go_ret
          first | exact HQ.out | (have h := HQ.out; simp only [Nat.zero_add, Nat.add_zero] at h; exact h)
    | succ g =>
      have hlt : g < n := by omega
      have hgn' : ((g + 1 : Nat) : Int) ≤ (n : Int) := by omega
      have hg0 : (0 : Int) < ((g + 1 : Nat) : Int) := by omega
      have hsub : ((g + 1 : Nat) : Int) - 1 = (g : Int) := by omega
      obtain ⟨b', o', q, sq, he, hq, _, f1, _⟩ := H.out.get hlt
      injection he with he
      injection he with he1 he2 _
      subst he1 he2
      have f1 := cellUp HBA.out f1
      obtain ⟨qn, qc⟩ := q
      simp only at f1
      have HQ := Lib.hid hq
      have HSUB := Lib.hid hsub
      clear hq
      by_cases hgt : pn < qn
      · have HD2 : Hid (∀ q ∈ ps.drop g, pn < q.1) := fun q hq => by
          rw [drop_at HQ.out] at hq
          rcases List.mem_cons.1 hq with rfl | hq
          · exact hgt
          · exact HD.out q hq
        go_upto_region 2 with fail
        go_quiet (fail)
        go_wp2_with fail
        go_roundg g
        case rel => exact ⟨by first | rfl | go_num, by omega, HD2.out, q_more HWR.out _⟩
        case measure => omega
      · have h20 : Hid (g + 1 = 0 ∨ ∃ q, ps[g + 1 - 1]? = some q ∧ q.1 ≤ pn) := .inr ⟨_, HQ.out, by show qn ≤ pn; omega⟩
        go_upto_region 2 with fail
        go_quiet (fail)
        obtain ⟨w3, hw3⟩ : ∃ w3, wr.drewN nq = w3 := ⟨_, rfl⟩
        have hb3 : Below wr.heap.size wr w3 := hw3 ▸ below_drewN (Below.refl _ _) nq
        simp only [hw3]
        clear hw3 hsub
        obtain ⟨K, hK⟩ : ∃ K, g + 1 = K := ⟨_, rfl⟩
        have hKn : K ≤ n := by omega
        rw [hK] at h20 HD
        rw [hK]
        clear hK hgn' hg0 HSUB hlt f1 hgn
        have HB3 : Hid (Below w.heap.size w w3) := HBA.out.trans (hb3.mono HBA.out.size)
        have HX3 := Lib.hid (below_blk hb3 HXR.out)
        have HS3 : Hid (bx + 1 ≤ w3.heap.size) := by show _ ≤ _; rw [← HBX.out]; exact Nat.le_trans HSR.out hb3.size
        clear hb3 x0 x1
        have HLO := Lib.hid ((H.out.low (k := K) (by omega)).below (by decide) HB3.out)
        go_wp2_with (at_builtin; refine wpList_append_rw rfl _ (.tmp 26) 29 rfl (bx + 1) 37 i0 _ 2 32 Try.underlying29 HI.out HI0.out HI1.out HI2.out rfl (by decide) (.slice none 0 0) 0 [] (by simp [Act.eval]) (World.ownsRow_nil _ _ _ _) (some ⟨b, o, none⟩) K c (pgC (ps.take K) (ss.take K)) (by simp [Act.eval]) HLO.out (fun e => by cases e) (pgC_one _ _) (by unfold maxLen; omega) (by omega) HS3.out ?_; intro v8 w8 hown8 hgrow8 hob8; simp only [Nat.zero_add, List.nil_append] at hown8; obtain ⟨V8, c8, rfl⟩ := own_slice hown8; have HB8 := Lib.hid (below_nil hgrow8); have HO8 := Lib.hid hown8; clear hown8 hgrow8 hob8)
        by_cases hcz : c = K
        · obtain rfl : n = K := by omega
          obtain rfl : n = c := hcz.symm
          have HHI : Hid (∀ W, Below w.heap.size w W → RwAt W 2 (pgC (ps.drop n) (ss.drop n)) (some ⟨b, o, none⟩) 0) := fun W hb => by
            have e : ps.drop n = [] := List.drop_eq_nil_of_le (by have := HLN.out; omega)
            rw [e]
            exact rw_none W _
          have HBB8 : Hid (Below w.heap.size w w8) := HB3.out.trans (HB8.out.mono HB3.out.size)
          have HX8 := Lib.hid (below_blk HB8.out HX3.out)
          have HS8 : Hid (bx + 1 ≤ w8.heap.size) := by show _ ≤ _; exact Nat.le_trans HS3.out HB8.out.size
          obtain ⟨x0, x1⟩ := pairCells HX8.out
          go_region_law (first
            | (refine step_append_rw rfl (.tmp 28) (.tmp 30) 29 rfl (bx + 1) 37 i0 _ 2 32 Try.underlying29 HI.out HI0.out HI1.out HI2.out rfl (by decide) (.slice V8 n c8) n (pgC (ps.take n) (ss.take n)) (by simp [Act.eval]) (own_bel HO8.out (by first | exact (Below.refl _ _).alloc (Nat.le_refl _) _ | exact (Below.refl _ _).drew.alloc (Nat.le_refl _) _ | exact ((Below.refl _ _).alloc (Nat.le_refl _) _).drew | exact ((Below.refl _ _).drew.alloc (Nat.le_refl _) _).drew)) (some ⟨w8.heap.size, 0, none⟩) 1 1 [.int .i64 pn, .slice A1 l1 c1] (by simp [Act.eval]) (by first | exact in_page | exact in_page.below (by decide) (below_drew1 _)) (fun e => by cases e) (by simp [Value.oneCell']) (by unfold maxLen; omega) (by omega) (Nat.le_trans HS8.out (size_of (by first | exact (Below.refl _ _).alloc (Nat.le_refl _) _ | exact (Below.refl _ _).drew.alloc (Nat.le_refl _) _ | exact ((Below.refl _ _).alloc (Nat.le_refl _) _).drew | exact ((Below.refl _ _).drew.alloc (Nat.le_refl _) _).drew))) ?_; intro v9 w9 hown9 hgrow9 hob9; obtain ⟨V9, c9, rfl⟩ := own_slice hown9; have HB9 : Hid (Below w.heap.size w w9) := below_grow (HBB8.out.trans (Below.mono (by first | exact (Below.refl _ _).alloc (Nat.le_refl _) _ | exact (Below.refl _ _).drew.alloc (Nat.le_refl _) _ | exact ((Below.refl _ _).alloc (Nat.le_refl _) _).drew | exact ((Below.refl _ _).drew.alloc (Nat.le_refl _) _).drew) HBB8.out.size)) hgrow9 (Nat.le_trans HBB8.out.size (size_of (by first | exact (Below.refl _ _).alloc (Nat.le_refl _) _ | exact (Below.refl _ _).drew.alloc (Nat.le_refl _) _ | exact ((Below.refl _ _).alloc (Nat.le_refl _) _).drew | exact ((Below.refl _ _).drew.alloc (Nat.le_refl _) _).drew))) (fun k hk => by have := (HO8.out.lt k hk).1; have := HBX.out; omega); have HS9 : Hid (bx + 1 ≤ w9.heap.size) := Nat.le_trans (Nat.le_trans HS8.out (size_of (by first | exact (Below.refl _ _).alloc (Nat.le_refl _) _ | exact (Below.refl _ _).drew.alloc (Nat.le_refl _) _ | exact ((Below.refl _ _).alloc (Nat.le_refl _) _).drew | exact ((Below.refl _ _).drew.alloc (Nat.le_refl _) _).drew))) hgrow9.size; have HO9 := Lib.hid hown9; clear hown9 hgrow9 hob9)
            | (refine step_append_rw rfl (.tmp 31) (.tmp 34) 29 rfl (bx + 1) 37 i0 _ 2 32 Try.underlying29 HI.out HI0.out HI1.out HI2.out rfl (by decide) (.slice V9 (n + 1) c9) (n + 1) _ (by simp [Act.eval]) (own_bel HO9.out (by first | exact Below.refl _ _ | exact (Below.refl _ _).drew)) (some ⟨b, o, none⟩) (0) (0) (pgC (ps.drop n) (ss.drop n)) (by simp [Act.eval]) (HHI.out _ (HB9.out.trans (Below.mono (by first | exact Below.refl _ _ | exact (Below.refl _ _).drew) HB9.out.size))) (fun e => by cases e) (pgC_one _ _) (by unfold maxLen; omega) (by omega) (Nat.le_trans HS9.out (size_of (by first | exact Below.refl _ _ | exact (Below.refl _ _).drew))) ?_; intro va wa howna hgrowa hoba; obtain ⟨VA, ca, rfl⟩ := own_slice howna; have HBa : Hid (Below w.heap.size w wa) := below_grow (HB9.out.trans (Below.mono (by first | exact Below.refl _ _ | exact (Below.refl _ _).drew) HB9.out.size)) hgrowa (Nat.le_trans HB9.out.size (size_of (by first | exact Below.refl _ _ | exact (Below.refl _ _).drew))) (fun k hk => by have := (HO9.out.lt k hk).1; have := HBX.out; omega); have HOa := Lib.hid howna; clear howna hgrowa hoba))
          all_goals
            have HQ := Lib.hid (InPost.of (k := n) (p := (pn, pc)) (s := (A1, c1)) (N2 := 0) H.out HSS.out (by omega) HD.out h20.out (by omega) HL1.out HBa.out HOa.out)
            go_wp2_with fail
            go_ret
            first | exact HQ.out | (have h := HQ.out; simp only [Nat.zero_add, Nat.add_zero] at h; exact h)
        · have HHI : Hid (∀ W, Below w.heap.size w W → RwAt W 2 (pgC (ps.drop K) (ss.drop K)) (some ⟨b, o + K * 2, none⟩) (n - K)) := fun W hb => (H.out.high (k := K) (by omega)).below (by decide) hb
          have HBB8 : Hid (Below w.heap.size w w8) := HB3.out.trans (HB8.out.mono HB3.out.size)
          have HX8 := Lib.hid (below_blk HB8.out HX3.out)
          have HS8 : Hid (bx + 1 ≤ w8.heap.size) := by show _ ≤ _; exact Nat.le_trans HS3.out HB8.out.size
          obtain ⟨x0, x1⟩ := pairCells HX8.out
          go_region_law (first
            | (refine step_append_rw rfl (.tmp 28) (.tmp 30) 29 rfl (bx + 1) 37 i0 _ 2 32 Try.underlying29 HI.out HI0.out HI1.out HI2.out rfl (by decide) (.slice V8 K c8) K (pgC (ps.take K) (ss.take K)) (by simp [Act.eval]) (own_bel HO8.out (by first | exact (Below.refl _ _).alloc (Nat.le_refl _) _ | exact (Below.refl _ _).drew.alloc (Nat.le_refl _) _ | exact ((Below.refl _ _).alloc (Nat.le_refl _) _).drew | exact ((Below.refl _ _).drew.alloc (Nat.le_refl _) _).drew)) (some ⟨w8.heap.size, 0, none⟩) 1 1 [.int .i64 pn, .slice A1 l1 c1] (by simp [Act.eval]) (by first | exact in_page | exact in_page.below (by decide) (below_drew1 _)) (fun e => by cases e) (by simp [Value.oneCell']) (by unfold maxLen; omega) (by omega) (Nat.le_trans HS8.out (size_of (by first | exact (Below.refl _ _).alloc (Nat.le_refl _) _ | exact (Below.refl _ _).drew.alloc (Nat.le_refl _) _ | exact ((Below.refl _ _).alloc (Nat.le_refl _) _).drew | exact ((Below.refl _ _).drew.alloc (Nat.le_refl _) _).drew))) ?_; intro v9 w9 hown9 hgrow9 hob9; obtain ⟨V9, c9, rfl⟩ := own_slice hown9; have HB9 : Hid (Below w.heap.size w w9) := below_grow (HBB8.out.trans (Below.mono (by first | exact (Below.refl _ _).alloc (Nat.le_refl _) _ | exact (Below.refl _ _).drew.alloc (Nat.le_refl _) _ | exact ((Below.refl _ _).alloc (Nat.le_refl _) _).drew | exact ((Below.refl _ _).drew.alloc (Nat.le_refl _) _).drew) HBB8.out.size)) hgrow9 (Nat.le_trans HBB8.out.size (size_of (by first | exact (Below.refl _ _).alloc (Nat.le_refl _) _ | exact (Below.refl _ _).drew.alloc (Nat.le_refl _) _ | exact ((Below.refl _ _).alloc (Nat.le_refl _) _).drew | exact ((Below.refl _ _).drew.alloc (Nat.le_refl _) _).drew))) (fun k hk => by have := (HO8.out.lt k hk).1; have := HBX.out; omega); have HS9 : Hid (bx + 1 ≤ w9.heap.size) := Nat.le_trans (Nat.le_trans HS8.out (size_of (by first | exact (Below.refl _ _).alloc (Nat.le_refl _) _ | exact (Below.refl _ _).drew.alloc (Nat.le_refl _) _ | exact ((Below.refl _ _).alloc (Nat.le_refl _) _).drew | exact ((Below.refl _ _).drew.alloc (Nat.le_refl _) _).drew))) hgrow9.size; have HO9 := Lib.hid hown9; clear hown9 hgrow9 hob9)
            | (refine step_append_rw rfl (.tmp 31) (.tmp 34) 29 rfl (bx + 1) 37 i0 _ 2 32 Try.underlying29 HI.out HI0.out HI1.out HI2.out rfl (by decide) (.slice V9 (K + 1) c9) (K + 1) _ (by simp [Act.eval]) (own_bel HO9.out (by first | exact Below.refl _ _ | exact (Below.refl _ _).drew)) (some ⟨b, o + K * 2, none⟩) (n - K) (c - K) (pgC (ps.drop K) (ss.drop K)) (by simp [Act.eval]) (HHI.out _ (HB9.out.trans (Below.mono (by first | exact Below.refl _ _ | exact (Below.refl _ _).drew) HB9.out.size))) (fun e => by cases e) (pgC_one _ _) (by unfold maxLen; omega) (by omega) (Nat.le_trans HS9.out (size_of (by first | exact Below.refl _ _ | exact (Below.refl _ _).drew))) ?_; intro va wa howna hgrowa hoba; obtain ⟨VA, ca, rfl⟩ := own_slice howna; have HBa : Hid (Below w.heap.size w wa) := below_grow (HB9.out.trans (Below.mono (by first | exact Below.refl _ _ | exact (Below.refl _ _).drew) HB9.out.size)) hgrowa (Nat.le_trans HB9.out.size (size_of (by first | exact Below.refl _ _ | exact (Below.refl _ _).drew))) (fun k hk => by have := (HO9.out.lt k hk).1; have := HBX.out; omega); have HOa := Lib.hid howna; clear howna hgrowa hoba))
          all_goals
            have HQ := Lib.hid (InPost.of (k := K) (p := (pn, pc)) (s := (A1, c1)) (N2 := n - K) H.out HSS.out (by omega) HD.out h20.out (by omega) HL1.out HBa.out HOa.out)
            go_wp2_with fail
            go_ret
            first | exact HQ.out | (have h := HQ.out; simp only [Nat.zero_add, Nat.add_zero] at h; exact h)

set_option maxHeartbeats 4000000 in
set_option maxRecDepth 100000 in
theorem insert_none (p : Pg) (s : Sl) (w : World) (hs : p.2.length ≤ s.2 ∧ ZsS (fun b => b < w.heap.size) w p.2 s.1) :
    Calls Try.prog 34 #[.slice none 0 0, .agg #[.int .i64 p.1, .slice s.1 p.2.length s.2]] w (InPost w 0 [] p) := by
  obtain ⟨i0, hi, hz0, hz1, hz2⟩ := info_parts infoPg
  have HI := Lib.hid hi
  have HI0 := Lib.hid hz0
  have HI1 := Lib.hid hz1
  have HI2 := Lib.hid hz2
  have HSS := Lib.hid hs
  have H : Hid (PgIn w [] [] none 0) := ⟨rfl, rw_none w none, trivial⟩
  obtain ⟨ps, hps⟩ : ∃ ps : List Pg, [] = ps := ⟨_, rfl⟩
  obtain ⟨ss, hss⟩ : ∃ ss : List Sl, [] = ss := ⟨_, rfl⟩
  rw [hps, hss] at H
  rw [hps]
  have HD : Hid (∀ q ∈ ps.drop 0, p.1 < q.1) := fun q hq => by rw [← hps] at hq; simp at hq
  have HHI : Hid (∀ W, Below w.heap.size w W → RwAt W 2 (pgC (ps.drop 0) (ss.drop 0)) none 0) := fun W hb => by rw [← hps, ← hss]; exact rw_none W _
  clear hps hss
  obtain ⟨pn, pc⟩ := p
  obtain ⟨A1, c1⟩ := s
  simp only
  obtain ⟨l1, hl1⟩ : ∃ x, pc.length = x := ⟨_, rfl⟩
  rw [hl1]
  have HL1 := Lib.hid hl1
  clear hi hz0 hz1 hz2 hs hl1
  go_enter Try.func34, Try.ntmps34
  go_wp2_with fail
  obtain ⟨w1, hw1⟩ : ∃ w1, w.alloc (.cells #[.int .i64 pn, .slice A1 l1 c1] 37) = w1 := ⟨_, rfl⟩
  have HX : Hid (w1.heap[w.heap.size]? = some (.cells #[.int .i64 pn, .slice A1 l1 c1] 37 (0, 0))) := hw1 ▸ new_blk w _
  have HB1 : Hid (Below w.heap.size w w1) := hw1 ▸ (Below.refl _ _).alloc (Nat.le_refl _) _
  have HS1 : Hid (w1.heap.size = w.heap.size + 1) := by show _ = _; rw [← hw1, new_size]
  obtain ⟨bx, hbx⟩ : ∃ x, w.heap.size = x := ⟨_, rfl⟩
  have HBX := Lib.hid hbx
  rw [hbx] at HX
  simp only [hw1]
  rw [hbx]
  clear hw1 hbx
  go_loopg [5] 0 (fun g i wr => i = .int .i64 (g : Nat) ∧ g = 0 ∧ Hid (∃ j, wr = w1.drewN j))
  case atStart => exact ⟨rfl, rfl, ⟨0, rfl⟩⟩
  case round =>
    obtain ⟨rfl, hgn, HWR⟩ := hrel
    have HBW : Hid (Below w1.heap.size w1 wr) := qb HWR.out
    have HBA : Hid (Below w.heap.size w wr) := HB1.out.trans (HBW.out.mono HB1.out.size)
    have HXR := Lib.hid (below_blk HBW.out HX.out)
    obtain ⟨x0, x1⟩ := pairCells HXR.out
    have HSR : Hid (w.heap.size + 1 ≤ wr.heap.size) := by show _ ≤ _; rw [← HS1.out]; exact HBW.out.size
    cases gk with
    | succ g => omega
    | zero =>
      clear hgn
      go_upto_region 2 with fail
      go_quiet (fail)
      obtain ⟨w3, hw3⟩ : ∃ w3, wr.drewN nq = w3 := ⟨_, rfl⟩
      have hb3 : Below wr.heap.size wr w3 := hw3 ▸ below_drewN (Below.refl _ _) nq
      simp only [hw3]
      clear hw3
      have HB3 : Hid (Below w.heap.size w w3) := HBA.out.trans (hb3.mono HBA.out.size)
      have HX3 := Lib.hid (below_blk hb3 HXR.out)
      have HS3 : Hid (bx + 1 ≤ w3.heap.size) := by show _ ≤ _; rw [← HBX.out]; exact Nat.le_trans HSR.out hb3.size
      clear hb3 x0 x1
      have HLO := Lib.hid ((H.out.low (k := 0) (by omega)).below (by decide) HB3.out)
      go_wp2_with (at_builtin; refine wpList_append_rw rfl _ (.tmp 26) 29 rfl (bx + 1) 37 i0 _ 2 32 Try.underlying29 HI.out HI0.out HI1.out HI2.out rfl (by decide) (.slice none 0 0) 0 [] (by simp [Act.eval]) (World.ownsRow_nil _ _ _ _) none 0 0 (pgC (ps.take 0) (ss.take 0)) (by simp [Act.eval]) HLO.out (fun _ => rfl) (pgC_one _ _) (by unfold maxLen; omega) (by omega) HS3.out ?_; intro v8 w8 hown8 hgrow8 hob8; simp only [Nat.zero_add, List.nil_append] at hown8; obtain ⟨V8, c8, rfl⟩ := own_slice hown8; have HB8 := Lib.hid (below_nil hgrow8); have HO8 := Lib.hid hown8; clear hown8 hgrow8 hob8)
      have HBB8 : Hid (Below w.heap.size w w8) := HB3.out.trans (HB8.out.mono HB3.out.size)
      have HX8 := Lib.hid (below_blk HB8.out HX3.out)
      have HS8 : Hid (bx + 1 ≤ w8.heap.size) := by show _ ≤ _; exact Nat.le_trans HS3.out HB8.out.size
      obtain ⟨x0, x1⟩ := pairCells HX8.out
      go_region_law (first
        | (refine step_append_rw rfl (.tmp 28) (.tmp 30) 29 rfl (bx + 1) 37 i0 _ 2 32 Try.underlying29 HI.out HI0.out HI1.out HI2.out rfl (by decide) (.slice V8 0 c8) 0 (pgC (ps.take 0) (ss.take 0)) (by simp [Act.eval]) (own_bel HO8.out (by first | exact (Below.refl _ _).alloc (Nat.le_refl _) _ | exact (Below.refl _ _).drew.alloc (Nat.le_refl _) _ | exact ((Below.refl _ _).alloc (Nat.le_refl _) _).drew | exact ((Below.refl _ _).drew.alloc (Nat.le_refl _) _).drew)) (some ⟨w8.heap.size, 0, none⟩) 1 1 [.int .i64 pn, .slice A1 l1 c1] (by simp [Act.eval]) (by first | exact in_page | exact in_page.below (by decide) (below_drew1 _)) (fun e => by cases e) (by simp [Value.oneCell']) (by unfold maxLen; omega) (by omega) (Nat.le_trans HS8.out (size_of (by first | exact (Below.refl _ _).alloc (Nat.le_refl _) _ | exact (Below.refl _ _).drew.alloc (Nat.le_refl _) _ | exact ((Below.refl _ _).alloc (Nat.le_refl _) _).drew | exact ((Below.refl _ _).drew.alloc (Nat.le_refl _) _).drew))) ?_; intro v9 w9 hown9 hgrow9 hob9; obtain ⟨V9, c9, rfl⟩ := own_slice hown9; have HB9 : Hid (Below w.heap.size w w9) := below_grow (HBB8.out.trans (Below.mono (by first | exact (Below.refl _ _).alloc (Nat.le_refl _) _ | exact (Below.refl _ _).drew.alloc (Nat.le_refl _) _ | exact ((Below.refl _ _).alloc (Nat.le_refl _) _).drew | exact ((Below.refl _ _).drew.alloc (Nat.le_refl _) _).drew) HBB8.out.size)) hgrow9 (Nat.le_trans HBB8.out.size (size_of (by first | exact (Below.refl _ _).alloc (Nat.le_refl _) _ | exact (Below.refl _ _).drew.alloc (Nat.le_refl _) _ | exact ((Below.refl _ _).alloc (Nat.le_refl _) _).drew | exact ((Below.refl _ _).drew.alloc (Nat.le_refl _) _).drew))) (fun k hk => by have := (HO8.out.lt k hk).1; have := HBX.out; omega); have HS9 : Hid (bx + 1 ≤ w9.heap.size) := Nat.le_trans (Nat.le_trans HS8.out (size_of (by first | exact (Below.refl _ _).alloc (Nat.le_refl _) _ | exact (Below.refl _ _).drew.alloc (Nat.le_refl _) _ | exact ((Below.refl _ _).alloc (Nat.le_refl _) _).drew | exact ((Below.refl _ _).drew.alloc (Nat.le_refl _) _).drew))) hgrow9.size; have HO9 := Lib.hid hown9; clear hown9 hgrow9 hob9)
        | (refine step_append_rw rfl (.tmp 31) (.tmp 34) 29 rfl (bx + 1) 37 i0 _ 2 32 Try.underlying29 HI.out HI0.out HI1.out HI2.out rfl (by decide) (.slice V9 (0 + 1) c9) (0 + 1) _ (by simp [Act.eval]) (own_bel HO9.out (by first | exact Below.refl _ _ | exact (Below.refl _ _).drew)) none (0) (0) (pgC (ps.drop 0) (ss.drop 0)) (by simp [Act.eval]) (HHI.out _ (HB9.out.trans (Below.mono (by first | exact Below.refl _ _ | exact (Below.refl _ _).drew) HB9.out.size))) (fun _ => rfl) (pgC_one _ _) (by unfold maxLen; omega) (by omega) (Nat.le_trans HS9.out (size_of (by first | exact Below.refl _ _ | exact (Below.refl _ _).drew))) ?_; intro va wa howna hgrowa hoba; obtain ⟨VA, ca, rfl⟩ := own_slice howna; have HBa : Hid (Below w.heap.size w wa) := below_grow (HB9.out.trans (Below.mono (by first | exact Below.refl _ _ | exact (Below.refl _ _).drew) HB9.out.size)) hgrowa (Nat.le_trans HB9.out.size (size_of (by first | exact Below.refl _ _ | exact (Below.refl _ _).drew))) (fun k hk => by have := (HO9.out.lt k hk).1; have := HBX.out; omega); have HOa := Lib.hid howna; clear howna hgrowa hoba))
      all_goals
        have HQ := Lib.hid (InPost.of (k := 0) (p := (pn, pc)) (s := (A1, c1)) (N2 := 0) H.out HSS.out (by omega) HD.out (.inl rfl) (by omega) HL1.out HBa.out HOa.out)
        go_wp2_with fail
        go_ret
        first | exact HQ.out | (have h := HQ.out; simp only [Nat.zero_add, Nat.add_zero] at h; exact h)

theorem insert_any (ps : List Pg) (ss : List Sl) (p : Pg) (s : Sl) (A : Option Addr) (n c : Nat) (w : World) (h : PgIn w ps ss A n) (hnc : n ≤ c) (hA : n = 0 → A = none ∧ c = 0) (hn : n ≤ 2000) (hs : p.2.length ≤ s.2 ∧ ZsS (fun b => b < w.heap.size) w p.2 s.1) :
    Calls Try.prog 34 #[.slice A n c, .agg #[.int .i64 p.1, .slice s.1 p.2.length s.2]] w (InPost w n ps p) := by
  by_cases h0 : 0 < n
  · obtain ⟨b, o, rfl, _⟩ := h.row.2 h0
    exact insert_some ps ss p s b o n c w h hnc hn hs
  · have hn0 : n = 0 := by omega
    subst hn0
    obtain ⟨rfl, rfl⟩ := hA rfl
    have hp : ps = [] := List.eq_nil_of_length_eq_zero h.len.symm
    subst hp
    exact insert_none p s w hs
end Go.Proofs.Ytkhaapdokhhbdaa
