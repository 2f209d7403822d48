/-
  Texts of a walk, laid together by a program of the prover's own (merge.py). No conditions beyond those that each text names.
-/
import Derived.Test.YtgblgkkbggdopaaDoorZah
import Derived.Test.YtgblgkkbggdopaaDoorZaw
/-
  How sends and outputs of a state are numbered, on plain lists. No conditions.
-/
namespace Go.Proofs.YtgblgkkbggdopaaDoor

abbrev stepN (_ : Int × Int) (r : List Int) : Int × Int := (evA r 0, evA r 1)
/-- Whether sends are numbered as they ought to be, behind an index and a number. -/
def nmbS (n me : Int) : List (List Int) → Int × Int → Bool
  | [], _ => true
  | r :: l, p => decide (p.1 ≤ evA r 0 ∧ evA r 0 ≤ n ∧ 0 ≤ evA r 2 ∧ evA r 2 ≤ 2 ∧ evA r 2 ≠ me ∧ evA r 1 = (if p.1 < evA r 0 then -1 else p.2) + 1 ∧ 0 ≤ evA r 1 ∧ evA r 1 < 8 ∧ r.length = 4) && nmbS n me l (stepN p r)
theorem nmbS_append (n me : Int) : ∀ (a b : List (List Int)) (p : Int × Int), nmbS n me (a ++ b) p = (nmbS n me a p && nmbS n me b (a.foldl stepN p))
  | [], b, p => by simp [nmbS]
  | r :: a, b, p => by simp only [List.cons_append, nmbS, List.foldl_cons, nmbS_append n me a b, Bool.and_assoc]
/-- Whether outputs are numbered as they ought to be. -/
def nmbO (n : Int) : List (List Int) → Int → Bool
  | [], _ => true
  | r :: l, i => decide (i ≤ evA r 0 ∧ evA r 0 ≤ n ∧ r.length = 2) && nmbO n l (evA r 0)
theorem nmbO_append (n : Int) : ∀ (a b : List (List Int)) (i : Int), nmbO n (a ++ b) i = (nmbO n a i && nmbO n b (a.foldl (fun _ r => evA r 0) i))
  | [], b, p => by simp [nmbO]
  | r :: a, b, p => by simp only [List.cons_append, nmbO, List.foldl_cons, nmbO_append n a b, Bool.and_assoc]

/-- What holds of a state behind the index k. -/
structure NumI (n me k : Int) (xs ys : List (List Int)) : Prop where
  s : nmbS n me xs (0, -1) = true
  e : (xs.foldl stepN (0, -1)).1 ≤ k
  t : nmbO n ys 0 = true
  f : (ys.foldl (fun _ r => evA r 0) 0) ≤ k

theorem addE_num (n me src va : Int) (k : Int) (hk0 : 0 ≤ k) (hk : k ≤ n) : ∀ (l : List (Int × Int × Int)) (o : Int) (r : List (List Int) × List (List Int)), (∀ e ∈ l, EffOk ⟨me, 3, src, va⟩ e) → 0 ≤ o → o + (l.length : Int) ≤ 8 → NumI n me k r.1 r.2 →
    (((r.1.foldl stepN (0, -1)).1 = k ∧ (r.1.foldl stepN (0, -1)).2 = o - 1) ∨ ((r.1.foldl stepN (0, -1)).1 < k ∧ o = 0)) → NumI n me k (addE k o l r).1 (addE k o l r).2
  | [], o, r, _, _, _, h, _ => h
  | e :: l, o, r, he, h0, h8, h, hp => by
    have he' := he e (List.mem_cons_self ..)
    have hl : ∀ x ∈ l, EffOk ⟨me, 3, src, va⟩ x := fun x hx => he x (List.mem_cons_of_mem _ hx)
    simp only [List.length_cons] at h8
    rw [addE]
    by_cases h1 : e.1 = 1
    · rw [if_pos h1]
      unfold EffOk at he'
      rcases he' with ⟨_, g1, g2, g3⟩ | g
      · simp only at g1 g2 g3
        refine addE_num n me src va k hk0 hk l (o + 1) _ hl (by omega) (by omega) ⟨?_, ?_, h.t, h.f⟩ (.inl ?_)
        · rw [nmbS_append, h.s]
          simp only [nmbS, evA, List.getD_cons_zero, List.getD_cons_succ, Bool.true_and, Bool.and_true, decide_eq_true_eq, List.length_cons, List.length_nil]
          refine ⟨h.e, hk, g1, by omega, g3, ?_, h0, by omega, trivial⟩
          rcases hp with ⟨p1, p2⟩ | ⟨p1, p2⟩
          · rw [if_neg (by omega), p2]; omega
          · rw [if_pos p1]; omega
        · simp [List.foldl_append, evA]
        · simp [List.foldl_append, evA]
      · omega
    · rw [if_neg h1]
      refine addE_num n me src va k hk0 hk l o _ hl h0 (by omega) ⟨h.s, h.e, ?_, ?_⟩ hp
      · rw [nmbO_append, h.t]
        simp only [nmbO, evA, List.getD_cons_zero, Bool.true_and, Bool.and_true, decide_eq_true_eq, List.length_cons, List.length_nil]
        exact ⟨h.f, hk, trivial⟩
      · simp [List.foldl_append, evA]

theorem NumI.mono {n me k k' : Int} {s t : List (List Int)} (h : NumI n me k s t) (hk : k ≤ k') : NumI n me k' s t := ⟨h.s, Int.le_trans h.e hk, h.t, Int.le_trans h.f hk⟩

theorem foldP_num (c : Cd) (me n : Int) : ∀ (l : List (List Int)) (s : PS), NumI n me s.evs.length s.sent s.outs → ((s.evs.length + l.length : Nat) : Int) ≤ n → NumI n me ((s.evs.length + l.length : Nat) : Int) (l.foldl (nextP c me 3) s).sent (l.foldl (nextP c me 3) s).outs
  | [], s, h, _ => by simpa using h
  | e :: l, s, h, hn => by
    rw [List.foldl_cons]
    have hx : (nextP c me 3 s e).evs.length = s.evs.length + 1 := by rw [nextP_evs, List.length_append]; rfl
    have hz : NumI n me ((nextP c me 3 s e).evs.length : Int) (nextP c me 3 s e).sent (nextP c me 3 s e).outs := by
      rw [hx]
      have hok := runR_ok ⟨me, 3, if evA e 0 = 1 then evA e 2 else me, evA e 6⟩ (bodyP c e) s.cells
      have hk : (((s.evs ++ [e]).length : Nat) : Int) = ((s.evs.length + 1 : Nat) : Int) := by rw [List.length_append]; rfl
      have hr := addE_num n me (if evA e 0 = 1 then evA e 2 else me) (evA e 6) ((s.evs.length + 1 : Nat) : Int) (by omega) (by simp only [List.length_cons] at hn; omega) (runR ⟨me, 3, if evA e 0 = 1 then evA e 2 else me, evA e 6⟩ (bodyP c e) s.cells).effs 0 (s.sent, s.outs) hok.2 (by omega) (by have := hok.1; omega) (h.mono (by omega)) (.inr ⟨by have := h.e; simp only at this ⊢; omega, rfl⟩)
      rw [← hk] at hr
      unfold nextP exeP
      rw [← hk]
      exact hr
    have := foldP_num c me n l (nextP c me 3 s e) hz (by rw [hx]; simp only [List.length_cons] at hn; omega)
    rw [hx] at this
    rw [List.length_cons, show s.evs.length + (l.length + 1) = s.evs.length + 1 + l.length by omega]
    exact this
theorem replayP_num (c : Cd) (me : Int) (l : List (List Int)) : NumI l.length me l.length (replayP c me 3 l).sent (replayP c me 3 l).outs := by
  have hok := runR_ok ⟨me, 3, me, 0⟩ c.start c.init
  have h0 : NumI l.length me 0 (startP c me 3).sent (startP c me 3).outs := by
    have := addE_num l.length me me 0 0 (by omega) (by omega) (runR ⟨me, 3, me, 0⟩ c.start c.init).effs 0 ([], []) hok.2 (by omega) (by have := hok.1; omega) ⟨rfl, by simp, rfl, by simp⟩ (.inl ⟨rfl, rfl⟩)
    exact this
  have := foldP_num c me l.length l (startP c me 3) h0 (by show ((0 + l.length : Nat) : Int) ≤ _; omega)
  have e : (startP c me 3).evs.length = 0 := rfl
  rw [e, Nat.zero_add] at this
  exact this

theorem nmbS_len (n me : Int) : ∀ (l : List (List Int)) (p : Int × Int), nmbS n me l p = true → ∀ r ∈ l, r.length = 4
  | [], _, _, r, h => by cases h
  | x :: l, p, h, r, hr => by
    simp only [nmbS, Bool.and_eq_true, decide_eq_true_eq] at h
    rcases List.mem_cons.1 hr with rfl | hr
    · exact h.1.2.2.2.2.2.2.2.2
    · exact nmbS_len n me l _ h.2 r hr
theorem nmbO_len (n : Int) : ∀ (l : List (List Int)) (i : Int), nmbO n l i = true → ∀ r ∈ l, r.length = 2
  | [], _, _, r, h => by cases h
  | x :: l, p, h, r, hr => by
    simp only [nmbO, Bool.and_eq_true, decide_eq_true_eq] at h
    rcases List.mem_cons.1 hr with rfl | hr
    · exact h.1.2.2
    · exact nmbO_len n l _ h.2 r hr
end Go.Proofs.YtgblgkkbggdopaaDoor

/-
  States that are read only, and what Replay leaves in a box that was made earlier or later. No conditions.
-/
namespace Go.Proofs.YtgblgkkbggdopaaDoor
open Go.RowKit

/-- The lists of a state, to be read. -/
structure SRd (w : World) (s : PS) (Z V S O : Option Addr) : Prop where
  cells : RwAt w 1 (s.cells.map (Value.int .i64)) Z s.cells.length
  evs : RwAt w 7 (rowC s.evs) V s.evs.length
  sent : RwAt w 4 (rowC s.sent) S s.sent.length
  outs : RwAt w 2 (rowC s.outs) O s.outs.length
theorem SRd.below {w w' : World} {s : PS} {Z V S O : Option Addr} (h : SRd w s Z V S O) (hb : Below w.heap.size w w') : SRd w' s Z V S O :=
  ⟨h.cells.below (by decide) hb, h.evs.below (by decide) hb, h.sent.below (by decide) hb, h.outs.below (by decide) hb⟩
/-- The four cells of a state. -/
abbrev stV (s : PS) (Z V S O : Option Addr) (zc vc sc oc : Nat) : List Value := [.slice Z s.cells.length zc, .slice V s.evs.length vc, .slice S s.sent.length sc, .slice O s.outs.length oc]

/-- What Replay returned, to be read. -/
def RdPost (s : PS) (w : World) (e : Ending) (w' : World) : Prop :=
  ∃ (Z V S O : Option Addr) (zc vc sc oc : Nat), e = .returned (.agg #[.slice Z s.cells.length zc, .slice V s.evs.length vc, .slice S s.sent.length sc, .slice O s.outs.length oc]) ∧ SRd w' s Z V S O ∧ Below w.heap.size w w' ∧
    (∀ b o, Z = some ⟨b, o, none⟩ ∨ V = some ⟨b, o, none⟩ ∨ S = some ⟨b, o, none⟩ ∨ O = some ⟨b, o, none⟩ → w.heap.size ≤ b ∧ b < w'.heap.size)
theorem rd_of_rep {s : PS} {w w' : World} {e : Ending} (h : RepPost w.heap.size s w e w') : RdPost s w e w' := by
  obtain ⟨Z, zc, V, S, O, rfl, hz, ho, hb, -, -, -⟩ := h
  obtain ⟨V0, vc, rfl⟩ := own_slice ho.evs
  obtain ⟨S0, sc, rfl⟩ := own_slice ho.sent
  obtain ⟨O0, oc, rfl⟩ := own_slice ho.outs
  refine ⟨Z, V0, S0, O0, zc, vc, sc, oc, rfl, ⟨RwAt.own hz, RwAt.own ho.evs, RwAt.own ho.sent, RwAt.own ho.outs⟩, hb, ?_⟩
  rintro b o (e | e | e | e)
  · exact hz.lt b (by rw [e]; rfl)
  · exact ho.evs.lt b (by rw [e]; rfl)
  · exact ho.sent.lt b (by rw [e]; rfl)
  · exact ho.outs.lt b (by rw [e]; rfl)

/-- A state in a box. -/
def SBox (w : World) (s : PS) (sb : Nat) (Z V S O : Option Addr) (zc vc sc oc : Nat) : Prop := w.heap[sb]? = some (.cells #[.slice Z s.cells.length zc, .slice V s.evs.length vc, .slice S s.sent.length sc, .slice O s.outs.length oc] 36 (0, 0)) ∧ SRd w s Z V S O
theorem SBox.below {w w' : World} {s : PS} {sb : Nat} {Z V S O : Option Addr} {zc vc sc oc : Nat} (h : SBox w s sb Z V S O zc vc sc oc) (hb : Below w.heap.size w w') : SBox w' s sb Z V S O zc vc sc oc := ⟨below_blk hb h.1, h.2.below hb⟩
theorem sbox_late {s : PS} {w : World} {Z V S O : Option Addr} {zc vc sc oc : Nat} (h : SRd w s Z V S O) : SBox (w.alloc (.cells #[.slice Z s.cells.length zc, .slice V s.evs.length vc, .slice S s.sent.length sc, .slice O s.outs.length oc] 36)) s w.heap.size Z V S O zc vc sc oc :=
  ⟨new_blk w _, h.below (rp_one1 w _)⟩
theorem sbox_early {s : PS} {w' : World} {sb : Nat} {Z V S O : Option Addr} {zc vc sc oc : Nat} {u0 u1 u2 u3 : Value} (h : SRd w' s Z V S O) (hb : w'.heap[sb]? = some (.cells #[u0, u1, u2, u3] 36 (0, 0))) (hx : ∀ b o, Z = some ⟨b, o, none⟩ ∨ V = some ⟨b, o, none⟩ ∨ S = some ⟨b, o, none⟩ ∨ O = some ⟨b, o, none⟩ → b ≠ sb) :
    SBox (set4 w' sb (.slice Z s.cells.length zc) (.slice V s.evs.length vc) (.slice S s.sent.length sc) (.slice O s.outs.length oc)) s sb Z V S O zc vc sc oc := by
  have s4 : ∀ k, k ≠ sb → (set4 w' sb (.slice Z s.cells.length zc) (.slice V s.evs.length vc) (.slice S s.sent.length sc) (.slice O s.outs.length oc)).heap[k]? = w'.heap[k]? := fun k hk => set4_blk _ _ _ _ _ _ hk
  refine ⟨?_, h.cells.at' (fun b o e => s4 b (hx b o (.inl e))), h.evs.at' (fun b o e => s4 b (hx b o (.inr (.inl e)))), h.sent.at' (fun b o e => s4 b (hx b o (.inr (.inr (.inl e))))), h.outs.at' (fun b o e => s4 b (hx b o (.inr (.inr (.inr e)))))⟩
  have k0 := blk_set hb 0 (.slice Z s.cells.length zc)
  have k1 := blk_set k0 1 (.slice V s.evs.length vc)
  have k2 := blk_set k1 2 (.slice S s.sent.length sc)
  exact blk_set k2 3 (.slice O s.outs.length oc)
theorem rp_dA (w : World) (o : Obj) : Below w.heap.size w (w.drew.alloc o) := (below_drew1 w).alloc (Nat.le_refl _) o
theorem Keep.set4 {R n : Nat} {a w : World} (h : Keep R a w) (hn : a.heap.size ≤ n) (a0 a1 a2 a3 : Value) : Keep R a (set4 w n a0 a1 a2 a3) :=
  (((h.setNew (p := ⟨n, 0, none⟩) hn a0).setNew (p := ⟨n, 1, none⟩) hn a1).setNew (p := ⟨n, 2, none⟩) hn a2).setNew (p := ⟨n, 3, none⟩) hn a3
end Go.Proofs.YtgblgkkbggdopaaDoor
