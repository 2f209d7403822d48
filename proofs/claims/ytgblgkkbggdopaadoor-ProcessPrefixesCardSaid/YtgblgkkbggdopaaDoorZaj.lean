/-
  Texts of a walk, laid together by a program of the prover's own (merge.py). No conditions beyond those that each text names.
-/
import Derived.Test.YtgblgkkbggdopaaDoorZae
import Derived.Test.YtgblgkkbggdopaaDoorZai
import Derived.IntWalk
import Derived.Deep.RegionHeld3
import Derived.Deep.CutBlock
import Derived.Deep.LoopGhost
import Derived.Deep.QuietTactic
import Derived.BigQuiet
/-
  What Resolve of package resolve returns for a program without handlers. Conditions: at most 100000 declarations, whose names have at most 4096 bytes.
-/
namespace Go.Proofs.YtgblgkkbggdopaaDoor
open Go.RowKit

theorem hA_none : ∀ k, hA none none none none k = none
  | 0 => rfl
  | 1 => rfl
  | 2 => rfl
  | _ + 3 => rfl
theorem hN_zero : ∀ k, hN 0 0 0 0 k = 0
  | 0 => rfl
  | 1 => rfl
  | 2 => rfl
  | _ + 3 => rfl

/-- The error of a program without handlers, and the initial values of its cells. -/
def resV (l : List Vr) : Int × List Int := if l.all varOK = false then (7, []) else ((declS l).1, (declS l).2.1)

/-- What Resolve returns. -/
def RvPost (R : Int × List Int) (w : World) (e : Ending) (w' : World) : Prop :=
  Below w.heap.size w w' ∧ ∃ A c, e = .returned (.tuple #[.agg #[.slice A R.2.length c, .slice none 0 0, .slice none 0 0, .slice none 0 0, .slice none 0 0], .int .i64 R.1]) ∧ w'.ownsRow w.heap.size 3 1 (.slice A R.2.length c) R.2.length (R.2.map (Value.int .i64))

theorem declS_err {l : List Vr} (h : (declS l).1 ≠ 0) : (declS l).2.1 = [] := by
  unfold declS at h ⊢
  split
  · rfl
  · rename_i h16
    rw [if_neg h16] at h
    split
    · rfl
    · rename_i f hf
      rw [hf] at h
      simp only at h
      split
      · rfl
      · rename_i a g hg
        rw [hg] at h
        exact absurd rfl h

theorem rv_below (w : World) (a b : Obj) : Below w.heap.size w ((w.alloc a).alloc b) := ((Below.refl _ _).alloc (Nat.le_refl _) a).alloc (by rw [new_size]; omega) b
theorem rv_prog (w : World) (a b : Obj) : ((w.alloc a).alloc b).heap[w.heap.size]? = some a := (alloc_blk _ b (by rw [new_size]; omega)).trans (new_blk w a)
theorem rv_code (w : World) (a b : Obj) : ((w.alloc a).alloc b).heap[w.heap.size + 1]? = some b := by
  have := new_blk (w.alloc a) b
  rwa [new_size] at this
theorem rv_out {w : World} {n : Nat} {T : TypeId} {z0 z1 z2 z3 z4 : Value} (h : w.heap[n]? = some (.cells #[z0, z1, z2, z3, z4] T (0, 0))) (a0 a1 a2 a3 a4 : Value) (x y : Obj) :
    ((((((((w.setCell ⟨n, 0, none⟩ a0).setCell ⟨n, 1, none⟩ a1).setCell ⟨n, 2, none⟩ a2).setCell ⟨n, 3, none⟩ a3).setCell ⟨n, 4, none⟩ a4).alloc x).alloc y).heap[n]? = some (.cells #[a0, a1, a2, a3, a4] T (0, 0))) := by
  have h0 := blk_set h 0 a0
  have h1 := blk_set h0 1 a1
  have h2 := blk_set h1 2 a2
  have h3 := blk_set h2 3 a3
  have h4 := blk_set h3 4 a4
  refine (alloc_blk _ y ?_).trans ((alloc_blk _ x (lt_of_block h4)).trans h4)
  rw [new_size]
  exact Nat.lt_succ_of_lt (lt_of_block h4)
theorem own_blk {w w' : World} {base base' : Nat} {e : TypeId} {size n : Nat} {v : Value} {xs : List Value} (h : w.ownsRow base e size v n xs) (hb : base' ≤ base) (hk : ∀ g, base ≤ g → g < w.heap.size → w'.heap[g]? = w.heap[g]?) : w'.ownsRow base' e size v n xs := by
  obtain ⟨h1, ⟨rfl, rfl⟩ | ⟨g, cap, cur, rfl, h2, h3, h4⟩⟩ := h
  · exact ⟨h1, .inl ⟨rfl, rfl⟩⟩
  · exact ⟨h1, .inr ⟨g, cap, cur, rfl, Nat.le_trans hb h2, (hk g h2 (lt_of_block h3)).trans h3, h4⟩⟩
theorem rv_other (w : World) (n : Nat) (a0 a1 a2 a3 a4 : Value) (x y : Obj) {k : Nat} (h : k ≠ n) (hk : k < w.heap.size) :
    ((((((((w.setCell ⟨n, 0, none⟩ a0).setCell ⟨n, 1, none⟩ a1).setCell ⟨n, 2, none⟩ a2).setCell ⟨n, 3, none⟩ a3).setCell ⟨n, 4, none⟩ a4).alloc x).alloc y).drew).heap[k]? = w.heap[k]? := by
  have hz := set5_size w n a0 a1 a2 a3 a4
  show (((set5 w n a0 a1 a2 a3 a4).alloc x).alloc y).heap[k]? = _
  rw [alloc_blk _ y (by rw [new_size, hz]; omega), alloc_blk _ x (by rw [hz]; exact hk), set5_blk w n a0 a1 a2 a3 a4 h]
def pv (l : List Vr) : Pr := ⟨l, [], [], [], []⟩

end Go.Proofs.YtgblgkkbggdopaaDoor

/-
  What Run of package interp does. Conditions: at most 100000 parts; at least one cell, at most 1000000.
-/
namespace Go.Proofs.YtgblgkkbggdopaaDoor
open Go.RowKit

/-- What Run returns. -/
def RunPost (en : En) (l : List St) (zs : List Int) (w : World) (e : Ending) (w' : World) : Prop :=
  ∃ (Z : Option Addr) (zc : Nat) (E : Option Addr) (ec : Nat), e = .returned (.tuple #[.slice Z zs.length zc, .slice E (runR en l zs).effs.length ec, .int .i64 (400 - ((runR en l zs).fuel : Int))]) ∧
    w'.ownsRow w.heap.size 3 1 (.slice Z zs.length zc) zs.length ((runR en l zs).cells.map (Value.int .i64)) ∧ w'.ownsRow w.heap.size 108 3 (.slice E (runR en l zs).effs.length ec) (runR en l zs).effs.length (effC (runR en l zs).effs) ∧ Below w.heap.size w w'

/-- The machine has been made. -/
theorem MSt.made {w w2 : World} {en : En} {zs : List Int} {Z : Option Addr} {zc B : Nat} (hB : w.heap.size ≤ B) (hown : w2.ownsRow B 3 1 (.slice Z zs.length zc) zs.length (zs.map (Value.int .i64))) (h0 : 0 < zs.length) (hm : zs.length ≤ 1000000) (hb : Below w.heap.size w w2) :
    MSt w.heap.size w2.heap.size (w2.heap.size + 1) en ⟨zs, [], 400⟩ (w2.alloc (.cells #[.slice Z zs.length zc, .slice none 0 0, .int .i64 400, .int .i64 en.self, .int .i64 en.procs, .int .i64 en.src, .int .i64 en.value] 125)) := by
  obtain ⟨g, rfl⟩ : ∃ g, Z = some ⟨g, 0, none⟩ := by
    rcases hown.2 with ⟨_, e⟩ | ⟨g, _, _, e, _⟩
    · omega
    · injection e with e; exact ⟨g, e⟩
  have hg := hown.lt g rfl
  refine ⟨hb.size, Nat.lt_succ_self _, by rw [new_size]; exact Nat.le_refl _, ⟨g, zc, none, 0, new_blk w2 _, by omega, by omega, by omega, ?_, ?_⟩, Nat.le_refl _, Nat.zero_le _, hm⟩
  · exact own_blk (own_bel hown (rp_one1 _ _)) hB (fun _ _ _ => rfl)
  · exact World.ownsRow_nil _ _ _ _

set_option maxHeartbeats 2000000 in
set_option maxRecDepth 100000 in
theorem run_any (en : En) (l : List St) (zs : List Int) (hbig : St.bigL l ≤ 100000) (w : World) (A : Option Addr) (len c : Nat) (Z : Option Addr) (zn zc : Nat) (hl : StSlice (fun k => k < w.heap.size) w l (.slice A len c)) (hz : RwAt w 1 (zs.map (Value.int .i64)) Z zn) (hzn : zn = zs.length) (h0 : 0 < zn) (hm : zn ≤ 1000000) :
    Calls Tryd.prog 57 #[.slice A len c, .slice Z zn zc, enV en] w (RunPost en l zs w) := by
  subst hzn
  have hb1 := rp_one1 w (.cells #[.int .i64 en.self, .int .i64 en.procs, .int .i64 en.src, .int .i64 en.value] 81)
  have hx := new_blk w (.cells #[.int .i64 en.self, .int .i64 en.procs, .int .i64 en.src, .int .i64 en.value] 81)
  have hl' := hl.still (S' := fun k => k < w.heap.size) (fun k h1 h2 => ⟨h1, hb1.block k h2⟩)
  have hz' := hz.below (by decide) hb1
  obtain ⟨W, hW⟩ : ∃ W, w.alloc (.cells #[.int .i64 en.self, .int .i64 en.procs, .int .i64 en.src, .int .i64 en.value] 81) = W := ⟨_, rfl⟩
  obtain ⟨nb, hnb⟩ : ∃ x, w.heap.size = x := ⟨_, rfl⟩
  rw [hW] at hb1 hx hl' hz'
  rw [hnb] at hx
  obtain ⟨n, hn⟩ : ∃ x, zs.length = x := ⟨_, rfl⟩
  have HN := Lib.hid hn
  rw [hn] at hz' h0 hm
  have HZ := Lib.hid (clone_ints (zs.map (Value.int .i64)) Z n zc W.drew (hz'.below (by decide) (below_drew1 W)) (ints_one zs) (by omega))
  have HB1 := Lib.hid hb1
  have HX := Lib.hid hx
  have HL : Hid (∀ W', Below w.heap.size w W' → StSlice (fun k => k < w.heap.size) W' l (.slice A len c)) := fun W' hb => hl.still (fun k h1 h2 => ⟨h1, hb.block k h2⟩)
  have HBG := Lib.hid hbig
  obtain ⟨e0, e1, e2, e3⟩ := box4 hx
  obtain ⟨s1, s2, s3, s4⟩ := en
  simp only at e0 e1 e2 e3 hW HX ⊢
  unfold RunPost
  rw [hn]
  have HS : Hid (∀ w', Below W.drew.heap.size W.drew w' → Below w.heap.size w w' ∧ w'.cell? ⟨nb, 0, none⟩ = some (.int .i64 s1) ∧ w'.cell? ⟨nb, 1, none⟩ = some (.int .i64 s2) ∧ w'.cell? ⟨nb, 2, none⟩ = some (.int .i64 s3) ∧ w'.cell? ⟨nb, 3, none⟩ = some (.int .i64 s4)) := fun w' hb => by
    have hb' : Below W.heap.size W w' := (below_drew1 W).trans hb
    have hx' := below_blk hb' HX.out
    exact ⟨HB1.out.trans (hb'.mono HB1.out.size), by rw [Lib.cell_of_heap hx']; rfl, by rw [Lib.cell_of_heap hx']; rfl, by rw [Lib.cell_of_heap hx']; rfl, by rw [Lib.cell_of_heap hx']; rfl⟩
  have hs0 := HS.out _ (Below.refl _ _)
  clear hl hl' hz hz' hb1 hx hn hbig
  go_enter Tryd.func57, Tryd.ntmps57
  go_upto_region 1 with fail
  clear hW
  go_region_held3 (fun w' => Below w.heap.size w w' ∧ w'.cell? ⟨nb, 0, none⟩ = some (.int .i64 s1) ∧ w'.cell? ⟨nb, 1, none⟩ = some (.int .i64 s2) ∧ w'.cell? ⟨nb, 2, none⟩ = some (.int .i64 s3) ∧ w'.cell? ⟨nb, 3, none⟩ = some (.int .i64 s4)) (first | assumption | exact HS.out _ (HB6.out.alloc HB6.out.size _)) ((go_at_call 67; ((with_reducible refine (HZ.out).mono ?_)); rintro e' w6 ⟨A6, c6, rfl, hown6, hb6⟩; have HO6 := Lib.hid hown6; have HB6 := Lib.hid hb6; have hs6 := HS.out _ hb6; clear hown6 hb6))
  have HBW6 := Lib.hid hs6.1
  have hms : MSt w.heap.size w6.heap.size (w6.heap.size + 1) ⟨s1, s2, s3, s4⟩ ⟨zs, [], 400⟩ (w6.alloc (.cells #[.slice A6 n c6, .slice none 0 0, .int .i64 400, .int .i64 s1, .int .i64 s2, .int .i64 s3, .int .i64 s4] 125)) := by
    have := MSt.made (w := w) (w2 := w6) (en := ⟨s1, s2, s3, s4⟩) (zs := zs) (Z := A6) (zc := c6) (B := W.drew.heap.size) (show w.heap.size ≤ W.heap.size from HB1.out.size) (by rw [HN.out]; exact HO6.out) (by rw [HN.out]; exact h0) (by rw [HN.out]; exact hm) HBW6.out
    rw [HN.out] at this
    exact this
  have hb7 := HBW6.out.alloc HBW6.out.size (.cells #[.slice A6 n c6, .slice none 0 0, .int .i64 400, .int .i64 s1, .int .i64 s2, .int .i64 s3, .int .i64 s4] 125)
  obtain ⟨W7, hW7⟩ : ∃ x, w6.alloc (.cells #[.slice A6 n c6, .slice none 0 0, .int .i64 400, .int .i64 s1, .int .i64 s2, .int .i64 s3, .int .i64 s4] 125) = x := ⟨_, rfl⟩
  obtain ⟨mb, hmb⟩ : ∃ x, w6.heap.size = x := ⟨_, rfl⟩
  simp only [hW7, hmb] at hms hb7 ⊢
  rename_i hh
  clear hh hs0 hs6 hW7 hmb HX e0 e1 e2 e3
  have HMS := Lib.hid hms
  have HB7 := Lib.hid hb7
  have HL7 := Lib.hid (HL.out _ hb7)
  clear hms hb7
  go_wp2_with fail
  refine (handler_any w.heap.size mb (mb + 1) ⟨s1, s2, s3, s4⟩ l ⟨zs, [], 400⟩ HBG.out W7 A len c HMS.out HL7.out).mono ?_
  rintro e' w8 ⟨rfl, hm8, hf8⟩
  have HM8 : Hid (MSt w.heap.size mb (mb + 1) ⟨s1, s2, s3, s4⟩ (runR ⟨s1, s2, s3, s4⟩ l zs) w8) := hm8
  have HB8 := Lib.hid (HB7.out.trans (HMS.out.bel hf8))
  have HLE : Hid ((runR ⟨s1, s2, s3, s4⟩ l zs).cells.length = n) := by show _ = _; rw [← HN.out]; exact (runR_le _ l zs).len
  clear hm8 hf8
  obtain ⟨r, hr⟩ : ∃ x, runR ⟨s1, s2, s3, s4⟩ l zs = x := ⟨_, rfl⟩
  rw [hr] at HM8 HLE
  have HR := Lib.hid hr
  obtain ⟨zb, zc', E, ec, g1, g2, g3, g4, g5, g6⟩ := HM8.out.box
  rw [HLE.out] at g1 g5
  obtain ⟨m0, m1, m2, _, _, _, _⟩ := box7 g1
  have HO5 := Lib.hid g5
  have HO6' := Lib.hid g6
  have hfu : (r.fuel : Int) ≤ 400 := by have := HM8.out.fuel; omega
  have hfu0 : (0 : Int) ≤ (r.fuel : Int) := by omega
  obtain ⟨F, hF⟩ : ∃ F : Int, (r.fuel : Int) = F := ⟨_, rfl⟩
  obtain ⟨ne, hne⟩ : ∃ x, r.effs.length = x := ⟨_, rfl⟩
  rw [hF] at m2 hfu hfu0
  rw [hne] at m1 HO6'
  have HF := Lib.hid hF
  have HNE := Lib.hid hne
  clear hr g1 g2 g3 g4 g5 g6 hF hne
  have hsub : IntKind.i64.wrap (400 - F) = 400 - F := IntWalk.i64_in _ (by omega)
  go_wp2_with fail
  go_quiet (fail)
  go_wp2_with fail
  go_ret3
  simp only [HR.out, HNE.out, HF.out]
  have hbd : ∀ q, Below w8.heap.size w8 (w8.drewN q) := fun q => below_drewN (Below.refl _ _) q
  exact ⟨some ⟨zb, 0, none⟩, zc', E, ec, rfl, own_bel HO5.out (hbd _), own_blk (own_bel HO6'.out (hbd _)) (by have := HMS.out.lo; omega) (fun _ _ _ => rfl), HB8.out.trans ((hbd _).mono HB8.out.size)⟩
end Go.Proofs.YtgblgkkbggdopaaDoor

/-
  How states of a process lie in memory, and what stays of other blocks. No conditions.
-/
namespace Go.Proofs.YtgblgkkbggdopaaDoor
open Go.RowKit

/-- A block that none of some slices begins in. -/
def Idl (w : World) (bs : List Value) (k : Nat) : Prop := k < w.heap.size ∧ ∀ v ∈ bs, v.ownBlock ≠ some k
/-- What lies in no block of bs stays as it was, and in no block of bs'. -/
structure FrL (bs bs' : List Value) (w w' : World) : Prop where
  os : w'.os = w.os
  tape : w'.tape = w.tape
  output : w'.output = w.output
  size : w.heap.size ≤ w'.heap.size
  blk : ∀ k, Idl w bs k → w'.heap[k]? = w.heap[k]? ∧ Idl w' bs' k
theorem FrL.refl (bs : List Value) (w : World) : FrL bs bs w w := ⟨rfl, rfl, rfl, Nat.le_refl _, fun _ h => ⟨rfl, h⟩⟩
theorem FrL.trans {bs bs' bs'' : List Value} {a b c : World} (h : FrL bs bs' a b) (g : FrL bs' bs'' b c) : FrL bs bs'' a c :=
  ⟨g.os.trans h.os, g.tape.trans h.tape, g.output.trans h.output, Nat.le_trans h.size g.size, fun k hk => ⟨((g.blk k (h.blk k hk).2).1).trans (h.blk k hk).1, (g.blk k (h.blk k hk).2).2⟩⟩
theorem FrL.of_below {bs : List Value} {w w' : World} (h : Below w.heap.size w w') : FrL bs bs w w' :=
  ⟨h.os, h.tape, h.output, h.size, fun k hk => ⟨h.block k hk.1, Nat.lt_of_lt_of_le hk.1 h.size, hk.2⟩⟩
theorem FrL.down {bs bs' : List Value} {w w' w'' : World} (h : FrL bs bs' w w') (hb : Below w'.heap.size w' w'') : FrL bs bs' w w'' := h.trans (FrL.of_below hb)
theorem FrL.up {bs bs' : List Value} {w w' w'' : World} (hb : Below w.heap.size w w') (h : FrL bs bs' w' w'') : FrL bs bs' w w'' := (FrL.of_below hb).trans h
/-- Blocks below those of bs stay. -/
theorem FrL.below {bs bs' : List Value} {base : Nat} {w w' : World} (h : FrL bs bs' w w') (hb : base ≤ w.heap.size) (hl : ∀ v ∈ bs, ∀ k, v.ownBlock = some k → base ≤ k) : Below base w w' :=
  ⟨h.os, h.tape, h.output, h.size, fun k hk => (h.blk k ⟨by omega, fun v hv e => by have := hl v hv k e; omega⟩).1⟩

/-- Two slices lie in blocks of their own. -/
def Apt (u v : Value) : Prop := ∀ k, u.ownBlock = some k → v.ownBlock ≠ some k
theorem Apt.symm {u v : Value} (h : Apt u v) : Apt v u := fun k h1 h2 => h k h2 h1
theorem apt_nil (v : Value) (n c : Nat) : Apt (.slice none n c) v := fun k h => by cases h
theorem apt_nilr (v : Value) (n c : Nat) : Apt v (.slice none n c) := (apt_nil v n c).symm
theorem Apt.of_lt {w : World} {base b2 : Nat} {T T' : TypeId} {k k' n n' : Nat} {u v : Value} {xs ys : List Value} (h : w.ownsRow base T k u n xs) {w' : World} (h' : w'.ownsRow b2 T' k' v n' ys) (hb : w.heap.size ≤ b2) : Apt u v := fun j h1 h2 => by
  have := (h.lt j h1).2
  have := (h'.lt j h2).1
  omega
/-- A row lies as it did. -/
theorem own_fr {bs bs' : List Value} {base : Nat} {T : TypeId} {k n : Nat} {v : Value} {xs : List Value} {w w' : World} (h : w.ownsRow base T k v n xs) (hf : FrL bs bs' w w') (ha : ∀ u ∈ bs, Apt v u) : w'.ownsRow base T k v n xs := by
  obtain ⟨h1, h2⟩ := h
  refine ⟨h1, ?_⟩
  rcases h2 with h2 | ⟨g, cap, cur, hv, hg, hh, r⟩
  · exact .inl h2
  · exact .inr ⟨g, cap, cur, hv, hg, ((hf.blk g ⟨lt_of_block hh, fun u hu => ha u hu g (by rw [hv]; rfl)⟩).1).trans hh, r⟩
theorem apt_fr {bs bs' : List Value} {base : Nat} {T : TypeId} {k n : Nat} {v : Value} {xs : List Value} {w w' : World} (h : w.ownsRow base T k v n xs) (hf : FrL bs bs' w w') (ha : ∀ u ∈ bs, Apt v u) : ∀ u ∈ bs', Apt v u := fun u hu j h1 h2 =>
  (hf.blk j ⟨(h.lt j h1).2, fun u' hu' => ha u' hu' j h1⟩).2.2 u hu h2

/-- The lists of a state that a call may append to. -/
structure SOwn (base : Nat) (w : World) (s : PS) (V S O : Value) : Prop where
  evs : w.ownsRow base 42 7 V s.evs.length (rowC s.evs)
  sent : w.ownsRow base 64 4 S s.sent.length (rowC s.sent)
  outs : w.ownsRow base 66 2 O s.outs.length (rowC s.outs)
  vs : Apt V S
  vo : Apt V O
  so : Apt S O
/-- A box. -/
abbrev bxV (b : Nat) : Value := .slice (some ⟨b, 0, none⟩) 0 0
theorem grown_fr {bs bs' : List Value} {w w2 w3 : World} {v v9 : Value} (hb : Below w.heap.size w w2) (hg : w2.grownBy w3 v.ownBlock) (hv : v ∈ bs) (hob : v9.ownBlock = v.ownBlock ∨ v9.ownBlock = some w2.heap.size) (hs : ∀ u ∈ bs', u ∈ bs ∨ u = v9) : FrL bs bs' w w3 := by
  have h1 := hb.size
  have h2 := hg.size
  refine ⟨hg.os.trans hb.os, hg.tape.trans hb.tape, hg.output.trans hb.output, by omega, fun k hk => ⟨(hg.block k (by have := hk.1; omega) (fun e => hk.2 v hv e.symm)).trans (hb.block k hk.1), by have := hk.1; omega, fun u hu => ?_⟩⟩
  rcases hs u hu with h | rfl
  · exact hk.2 u h
  · rcases hob with e | e
    · rw [e]; exact hk.2 v hv
    · rw [e]; intro e'; injection e' with e'; have := hk.1; omega
theorem setb_fr {bs : List Value} {b : Nat} (w : World) (hb : bxV b ∈ bs) (i : Nat) (u : Value) : FrL bs bs w (w.setCell ⟨b, i, none⟩ u) :=
  ⟨by simp [World.setCell], by simp [World.setCell], by simp [World.setCell], by simp [World.setCell], fun k hk => ⟨Below.heap_setCell _ _ _ _ (fun e => hk.2 _ hb (by simp [Value.ownBlock]; exact e.symm)), by rw [set_size]; exact hk.1, hk.2⟩⟩
theorem box4' {w : World} {n : Nat} {a0 a1 a2 a3 : Value} {T : TypeId} {fr : Nat × Nat} (h : w.heap[n]? = some (.cells #[a0, a1, a2, a3] T fr)) :
    w.cell? ⟨n, 0, none⟩ = some a0 ∧ w.cell? ⟨n, 1, none⟩ = some a1 ∧ w.cell? ⟨n, 2, none⟩ = some a2 ∧ w.cell? ⟨n, 3, none⟩ = some a3 := box4 h
end Go.Proofs.YtgblgkkbggdopaaDoor

/-
  What execute of package process does. Conditions: at most 100000 parts; at least one cell, at most 1000000; lists of at most 1000000 elements.
-/
namespace Go.Proofs.YtgblgkkbggdopaaDoor
open Go.RowKit

/-- What execute returns, of the state s1 behind. -/
def ExePost (base : Nat) (s1 : PS) (V S O : Value) (w : World) (e : Ending) (w' : World) : Prop :=
  ∃ (Z : Option Addr) (zc : Nat) (S' O' : Value), e = .returned (.agg #[.slice Z s1.cells.length zc, V, S', O']) ∧ w'.ownsRow w.heap.size 3 1 (.slice Z s1.cells.length zc) s1.cells.length (s1.cells.map (Value.int .i64)) ∧
    SOwn base w' s1 V S' O' ∧ FrL [S, O] [S', O'] w w' ∧ Apt (.slice Z s1.cells.length zc) S' ∧ Apt (.slice Z s1.cells.length zc) O'

/-- The head of execute's loop. -/
structure XHead (base : Nat) (idx : Int) (Q : List (List Int) × List (List Int)) (w1 : World) (sb n zc : Nat) (Z : Option Addr) (V S O : Value) (rest : List (Int × Int × Int)) (o : Int) (s t : List (List Int)) (S' O' : Value) (wr : World) : Prop where
  q : addE idx o rest (s, t) = Q
  ord : 0 ≤ o ∧ o + (rest.length : Int) ≤ 8
  few : s.length + t.length + rest.length ≤ 2000000
  box : wr.heap[sb]? = some (.cells #[.slice Z n zc, V, S', O'] 36 (0, 0))
  sent : wr.ownsRow base 64 4 S' s.length (rowC s)
  outs : wr.ownsRow base 66 2 O' t.length (rowC t)
  so : Apt S' O'
  fr : FrL [bxV sb, S, O] [bxV sb, S', O'] w1 wr
  sbs : S'.ownBlock ≠ some sb
  sbo : O'.ownBlock ≠ some sb

theorem info_S : (Tryd.prog.info? 64).map (fun i => (i.zero, i.size, i.bytes)) = some (some (.agg #[.int .i64 0, .int .i64 0, .int .i64 0, .int .i64 0]), 4, 32) := info_sends
theorem info_O : (Tryd.prog.info? 66).map (fun i => (i.zero, i.size, i.bytes)) = some (some (.agg #[.int .i64 0, .int .i64 0]), 2, 16) := info_outs

/-- An effect. -/
theorem eff_at {w : World} {E : Option Addr} {n : Nat} {l : List (Int × Int × Int)} (h : RwAt w 3 (effC l) E n) (hn : n = l.length) {b o k : Nat} (hE : E = some ⟨b, o, none⟩) {e : Int × Int × Int} (hk : l[k]? = some e) :
    w.cell? ⟨b, o + k * 3, none⟩ = some (.int .i64 e.1) ∧ w.cell? ⟨b, o + k * 3 + 1, none⟩ = some (.int .i64 e.2.1) ∧ w.cell? ⟨b, o + k * 3 + 2, none⟩ = some (.int .i64 e.2.2) := by
  have hl := (List.getElem?_eq_some_iff.1 hk).1
  have he : effC l = rowC (l.map fun e => [e.1, e.2.1, e.2.2]) := by simp [effC, rowC, List.flatMap_map]
  rw [he] at h
  have hr := h.row (k := 3) (by intro r hr; obtain ⟨x, _, rfl⟩ := List.mem_map.1 hr; rfl) (by rw [List.length_map]; exact hn) hE (i := k) (r := [e.1, e.2.1, e.2.2]) (by rw [List.getElem?_map, hk]; rfl)
  exact ⟨hr 0 _ rfl, hr 1 _ rfl, hr 2 _ rfl⟩

theorem XHead.sent' {base : Nat} {idx : Int} {Q : List (List Int) × List (List Int)} {w1 : World} {sb n zc : Nat} {Z : Option Addr} {V S O : Value} {rest : List (Int × Int × Int)} {o : Int} {s t : List (List Int)} {S' O' : Value} {wr w2 w3 : World} {e : Int × Int × Int} {v9 : Value}
    (h : XHead base idx Q w1 sb n zc Z V S O (e :: rest) o s t S' O' wr) (he : e.1 = 1) (hb : Below wr.heap.size wr w2)
    (hown : w3.ownsRow base 64 4 v9 (s.length + 1) (rowC s ++ [.int .i64 idx, .int .i64 o, .int .i64 e.2.1, .int .i64 e.2.2])) (hg : w2.grownBy w3 S'.ownBlock) (hob : v9.ownBlock = S'.ownBlock ∨ v9.ownBlock = some w2.heap.size) :
    XHead base idx Q w1 sb n zc Z V S O rest (o + 1) (s ++ [[idx, o, e.2.1, e.2.2]]) t v9 O' (w3.setCell ⟨sb, 2, none⟩ v9) := by
  have hz := hb.size
  have hsbl := lt_of_block h.box
  have hf1 : FrL [bxV sb, S', O'] [bxV sb, v9, O'] wr w3 := grown_fr hb hg (by simp) hob (by simp)
  have hsb3 : w3.heap[sb]? = wr.heap[sb]? := (hg.block sb (by omega) (fun e => h.sbs e.symm)).trans (hb.block sb hsbl)
  have h9 : v9.ownBlock ≠ some sb := by
    rcases hob with e | e
    · rw [e]; exact h.sbs
    · rw [e]; intro e'; injection e' with e'; omega
  have ho := h.outs
  have hao : ∀ u ∈ [S'], Apt O' u := by intro u hu; rw [List.mem_singleton.1 hu]; exact h.so.symm
  have hf2 : FrL [S'] [v9] wr w3 := grown_fr hb hg (by simp) hob (by simp)
  refine ⟨?_, ?_, ?_, ?_, ?_, own_set (own_fr ho hf2 hao) _ h.sbo _, (apt_fr ho hf2 hao v9 (by simp)).symm, ?_, h9, h.sbo⟩
  · have := h.q; rw [addE, if_pos he] at this; exact this
  · have := h.ord; simp only [List.length_cons] at this; omega
  · have := h.few; simp only [List.length_cons, List.length_append, List.length_nil] at this ⊢; omega
  · rw [blk_set (hsb3.trans h.box)]; rfl
  · rw [List.length_append, rowC_snoc]; exact own_set hown _ h9 _
  · exact (h.fr.trans hf1).trans (setb_fr w3 (by simp) 2 v9)
theorem XHead.outs' {base : Nat} {idx : Int} {Q : List (List Int) × List (List Int)} {w1 : World} {sb n zc : Nat} {Z : Option Addr} {V S O : Value} {rest : List (Int × Int × Int)} {o : Int} {s t : List (List Int)} {S' O' : Value} {wr w2 w3 : World} {e : Int × Int × Int} {v9 : Value}
    (h : XHead base idx Q w1 sb n zc Z V S O (e :: rest) o s t S' O' wr) (he : e.1 ≠ 1) (hb : Below wr.heap.size wr w2)
    (hown : w3.ownsRow base 66 2 v9 (t.length + 1) (rowC t ++ [.int .i64 idx, .int .i64 e.2.2])) (hg : w2.grownBy w3 O'.ownBlock) (hob : v9.ownBlock = O'.ownBlock ∨ v9.ownBlock = some w2.heap.size) :
    XHead base idx Q w1 sb n zc Z V S O rest o s (t ++ [[idx, e.2.2]]) S' v9 (w3.setCell ⟨sb, 3, none⟩ v9) := by
  have hz := hb.size
  have hsbl := lt_of_block h.box
  have hf1 : FrL [bxV sb, S', O'] [bxV sb, S', v9] wr w3 := grown_fr hb hg (by simp) hob (by simp)
  have hsb3 : w3.heap[sb]? = wr.heap[sb]? := (hg.block sb (by omega) (fun e => h.sbo e.symm)).trans (hb.block sb hsbl)
  have h9 : v9.ownBlock ≠ some sb := by
    rcases hob with e | e
    · rw [e]; exact h.sbo
    · rw [e]; intro e'; injection e' with e'; omega
  have ho := h.sent
  have hao : ∀ u ∈ [O'], Apt S' u := by intro u hu; rw [List.mem_singleton.1 hu]; exact h.so
  have hf2 : FrL [O'] [v9] wr w3 := grown_fr hb hg (by simp) hob (by simp)
  refine ⟨?_, ?_, ?_, ?_, own_set (own_fr ho hf2 hao) _ h.sbs _, ?_, apt_fr ho hf2 hao v9 (by simp), ?_, h.sbs, h9⟩
  · have := h.q; rw [addE, if_neg he] at this; exact this
  · have := h.ord; simp only [List.length_cons] at this; omega
  · have := h.few; simp only [List.length_cons, List.length_append, List.length_nil] at this ⊢; omega
  · rw [blk_set (hsb3.trans h.box)]; rfl
  · rw [List.length_append, rowC_snoc]; exact own_set hown _ h9 _
  · exact (h.fr.trans hf1).trans (setb_fr w3 (by simp) 3 v9)

theorem own_at {base : Nat} {T : TypeId} {k n : Nat} {v : Value} {xs : List Value} {w w' : World} (h : w.ownsRow base T k v n xs) (hk : ∀ j, v.ownBlock = some j → w'.heap[j]? = w.heap[j]?) : w'.ownsRow base T k v n xs := by
  obtain ⟨h1, h2⟩ := h
  refine ⟨h1, ?_⟩
  rcases h2 with h2 | ⟨g, cap, cur, hv, hg, hh, r⟩
  · exact .inl h2
  · exact .inr ⟨g, cap, cur, hv, hg, (hk g (by rw [hv]; rfl)).trans hh, r⟩
/-- Four cells are written. -/
def set4 (w : World) (n : Nat) (a0 a1 a2 a3 : Value) : World := (((w.setCell ⟨n, 0, none⟩ a0).setCell ⟨n, 1, none⟩ a1).setCell ⟨n, 2, none⟩ a2).setCell ⟨n, 3, none⟩ a3
theorem set4_blk (w : World) (n : Nat) (a0 a1 a2 a3 : Value) {k : Nat} (h : k ≠ n) : (set4 w n a0 a1 a2 a3).heap[k]? = w.heap[k]? := by
  unfold set4
  rw [Below.heap_setCell _ _ _ _ h, Below.heap_setCell _ _ _ _ h, Below.heap_setCell _ _ _ _ h, Below.heap_setCell _ _ _ _ h]
theorem set4_size (w : World) (n : Nat) (a0 a1 a2 a3 : Value) : (set4 w n a0 a1 a2 a3).heap.size = w.heap.size := by simp [set4, World.setCell]
theorem set4_below {B n : Nat} (w : World) (hn : B ≤ n) (a0 a1 a2 a3 : Value) : Below B w (set4 w n a0 a1 a2 a3) :=
  ((((Below.refl _ _).setCell (p := ⟨n, 0, none⟩) hn _).setCell (p := ⟨n, 1, none⟩) hn _).setCell (p := ⟨n, 2, none⟩) hn _).setCell (p := ⟨n, 3, none⟩) hn _

/-- What execute leaves behind its loop. -/
theorem exe_end {base nb : Nat} {self procs src va : Int} {body : List St} {s : PS} {w W w5 w6 wr : World} {V S O : Value} {Z : Option Addr} {zc : Nat} {o : Int} {s' t' : List (List Int)} {S' O' : Value} {Q : List (List Int) × List (List Int)}
    (hnb : w.heap.size = nb) (hz : W.heap.size = nb + 1 + 1 + 1 + 1) (hs : SOwn base w s V S O) (h4 : Below w.heap.size w W) (h5 : Below W.heap.size W w5) (hw6 : w6 = w5.setCell ⟨nb + 1, 0, none⟩ (.slice Z (runR ⟨self, procs, src, va⟩ body s.cells).cells.length zc))
    (hc : w5.ownsRow W.heap.size 3 1 (.slice Z (runR ⟨self, procs, src, va⟩ body s.cells).cells.length zc) (runR ⟨self, procs, src, va⟩ body s.cells).cells.length ((runR ⟨self, procs, src, va⟩ body s.cells).cells.map (Value.int .i64)))
    (hQ : addE s.evs.length 0 (runR ⟨self, procs, src, va⟩ body s.cells).effs (s.sent, s.outs) = Q)
    (h : XHead base s.evs.length Q w6 (nb + 1) (runR ⟨self, procs, src, va⟩ body s.cells).cells.length zc Z V S O [] o s' t' S' O' wr) :
    ExePost base (exeP ⟨self, procs, src, va⟩ body s) V S O w (.returned (.agg #[.slice Z (runR ⟨self, procs, src, va⟩ body s.cells).cells.length zc, V, S', O'])) (set4 wr (nb + 1 + 1) (.slice Z (runR ⟨self, procs, src, va⟩ body s.cells).cells.length zc) V S' O') := by
  have hq := h.q
  simp only [addE] at hq
  have he : exeP ⟨self, procs, src, va⟩ body s = { s with cells := (runR ⟨self, procs, src, va⟩ body s.cells).cells, sent := s', outs := t' } := by
    unfold exeP
    rw [hQ, ← hq]
  rw [he]
  generalize (runR ⟨self, procs, src, va⟩ body s.cells).cells = cs at *
  have e5 := h5.size
  have e6 : w6.heap.size = w5.heap.size := by rw [hw6, set_size]
  have er := h.fr.size
  have h45 := h4.trans (h5.mono h4.size)
  -- the rows at w6
  have zl : ∀ j, (Value.slice Z cs.length zc).ownBlock = some j → nb + 1 + 1 + 1 + 1 ≤ j := fun j hj => by have := (hc.lt j hj).1; omega
  have c6 : w6.ownsRow W.heap.size 3 1 (.slice Z cs.length zc) cs.length (cs.map (Value.int .i64)) := by
    rw [hw6]; exact own_set hc _ (fun e => by have := zl _ e; simp at this; omega) _
  have low : ∀ (j : Nat), j < nb → w6.heap[j]? = w.heap[j]? := fun j hj => by
    rw [hw6]; exact (Below.heap_setCell _ _ _ _ (by show j ≠ nb + 1; omega)).trans (h45.block j (by omega))
  have vl : ∀ j, V.ownBlock = some j → j < nb := fun j hj => by have := (hs.evs.lt j hj).2; omega
  have sl : ∀ j, S.ownBlock = some j → j < nb := fun j hj => by have := (hs.sent.lt j hj).2; omega
  have ol : ∀ j, O.ownBlock = some j → j < nb := fun j hj => by have := (hs.outs.lt j hj).2; omega
  have v6 := own_at hs.evs (w' := w6) (fun j hj => low j (vl j hj))
  have az : ∀ u ∈ [bxV (nb + 1), S, O], Apt (.slice Z cs.length zc) u := by
    intro u hu j h1 h2
    have := zl j h1
    simp only [List.mem_cons, List.not_mem_nil, or_false] at hu
    rcases hu with rfl | rfl | rfl
    · simp [Value.ownBlock] at h2; omega
    · have := sl j h2; omega
    · have := ol j h2; omega
  have av : ∀ u ∈ [bxV (nb + 1), S, O], Apt V u := by
    intro u hu j h1 h2
    have := vl j h1
    simp only [List.mem_cons, List.not_mem_nil, or_false] at hu
    rcases hu with rfl | rfl | rfl
    · simp [Value.ownBlock] at h2; omega
    · exact hs.vs j h1 h2
    · exact hs.vo j h1 h2
  have cr := own_fr c6 h.fr az
  have vr := own_fr v6 h.fr av
  have az' := apt_fr c6 h.fr az
  have av' := apt_fr v6 h.fr av
  have hrb := (h.fr.blk (nb + 1 + 1) ⟨by omega, fun u hu e => by
    simp only [List.mem_cons, List.not_mem_nil, or_false] at hu
    rcases hu with rfl | rfl | rfl
    · simp [Value.ownBlock] at e
    · have := sl _ e; omega
    · have := ol _ e; omega⟩).2
  have s4 : ∀ k, k ≠ nb + 1 + 1 → (set4 wr (nb + 1 + 1) (.slice Z cs.length zc) V S' O').heap[k]? = wr.heap[k]? := fun k hk => set4_blk _ _ _ _ _ _ hk
  refine ⟨Z, zc, S', O', rfl, ?_, ⟨?_, ?_, ?_, av' _ (by simp), av' _ (by simp), h.so⟩, ?_, az' _ (by simp), az' _ (by simp)⟩
  · have := own_at cr (fun j hj => s4 j (by have := zl j hj; omega))
    exact ⟨this.1, this.2.imp id fun ⟨g, cap, cur, k1, k2, k3⟩ => ⟨g, cap, cur, k1, by omega, k3⟩⟩
  · exact own_at vr (fun j hj => s4 j (by have := vl j hj; omega))
  · exact own_at h.sent (fun j hj => s4 j (fun e => hrb.2 S' (by simp) (by rw [← e]; exact hj)))
  · exact own_at h.outs (fun j hj => s4 j (fun e => hrb.2 O' (by simp) (by rw [← e]; exact hj)))
  · have hb9 := set4_below (B := nb + 1 + 1) wr (Nat.le_refl _) (.slice Z cs.length zc) V S' O'
    refine ⟨?_, ?_, ?_, ?_, fun k hk => ?_⟩
    · rw [hb9.os, h.fr.os, hw6]; simp [World.setCell]; exact h45.os
    · rw [hb9.tape, h.fr.tape, hw6]; simp [World.setCell]; exact h45.tape
    · rw [hb9.output, h.fr.output, hw6]; simp [World.setCell]; exact h45.output
    · rw [set4_size]; have := h45.size; omega
    · have hk1 := hk.1
      have hi := h.fr.blk k ⟨by have := h45.size; omega, fun u hu => by
        simp only [List.mem_cons, List.not_mem_nil, or_false] at hu
        rcases hu with rfl | rfl | rfl
        · simp [Value.ownBlock]; omega
        · exact hk.2 _ (by simp)
        · exact hk.2 _ (by simp)⟩
      refine ⟨((s4 k (by omega)).trans hi.1).trans (low k (by omega)), by rw [set4_size]; exact hi.2.1, fun u hu => hi.2.2 u (by simp only [List.mem_cons] at hu ⊢; exact .inr hu)⟩
end Go.Proofs.YtgblgkkbggdopaaDoor

/-
  What execute of package process does: the walk. Conditions: those of WalkPx.
-/
namespace Go.Proofs.YtgblgkkbggdopaaDoor
open Go.RowKit

theorem rp_2 (w : World) (a b : Obj) : Below w.heap.size w ((w.alloc a).alloc b) := ((Below.refl _ _).alloc (Nat.le_refl _) a).alloc (by rw [new_size]; omega) b
theorem rp_cells2 (w : World) (a : Obj) (cs : List Value) (T : TypeId) : ∀ j u, cs[j]? = some u → ((w.alloc a).alloc (.cells cs.toArray T)).cell? ((⟨w.heap.size + 1, 0, none⟩ : Addr).add j) = some u := fun j u hj => by
  have := rp_cellsA (w.alloc a) cs T j u hj
  rwa [new_size] at this

set_option maxHeartbeats 8000000 in
set_option maxRecDepth 100000 in
theorem execute_any (base : Nat) (self procs src va : Int) (body : List St) (hbig : St.bigL body ≤ 100000) (s : PS) (w : World) (C0 C1 C2 C3 C4 : Option Addr) (k0 k1 k2 k3 k4 q0 q1 q2 q3 q4 : Nat) (Z : Option Addr) (n zc : Nat) (V S O : Value) (A : Option Addr) (len c : Nat)
    (hl : StSlice (fun k => k < w.heap.size) w body (.slice A len c)) (hz : RwAt w 1 (s.cells.map (Value.int .i64)) Z n) (hn : n = s.cells.length) (h0 : 0 < n) (hm : n ≤ 1000000) (hs : SOwn base w s V S O) (hbase : base ≤ w.heap.size) (hf1 : s.sent.length + s.outs.length ≤ 1000000) :
    Calls Tryd.prog 36 #[.agg #[.slice C0 k0 q0, .slice C1 k1 q1, .slice C2 k2 q2, .slice C3 k3 q3, .slice C4 k4 q4, .int .i64 self, .int .i64 procs], .agg #[.slice Z n zc, V, S, O], .slice A len c, .int .i64 src, .int .i64 va] w (ExePost base (exeP ⟨self, procs, src, va⟩ body s) V S O w) := by
  obtain ⟨V0, vc, rfl⟩ := own_slice hs.evs
  obtain ⟨S0, sc, rfl⟩ := own_slice hs.sent
  obtain ⟨O0, oc, rfl⟩ := own_slice hs.outs
  obtain ⟨nb, hnb⟩ : ∃ x, w.heap.size = x := ⟨_, rfl⟩
  obtain ⟨W, hW⟩ : ∃ W, (((w.alloc (.cells #[.slice C0 k0 q0, .slice C1 k1 q1, .slice C2 k2 q2, .slice C3 k3 q3, .slice C4 k4 q4, .int .i64 self, .int .i64 procs] 77)).alloc (.cells #[.slice Z n zc, .slice V0 s.evs.length vc, .slice S0 s.sent.length sc, .slice O0 s.outs.length oc] 36)).alloc (.cells #[.slice none 0 0, .slice none 0 0, .slice none 0 0, .slice none 0 0] 36)).alloc (.cells #[.int .i64 self, .int .i64 procs, .int .i64 src, .int .i64 va] 81) = W := ⟨_, rfl⟩
  have hz0 : W.heap.size = nb + 1 + 1 + 1 + 1 := by rw [← hW, ← hnb]; simp only [new_size]
  have hb4 : Below w.heap.size w W := by
    rw [← hW]
    exact ((((Below.refl _ _).alloc (Nat.le_refl _) _).alloc (by rw [new_size]; omega) _).alloc (by simp only [new_size]; omega) _).alloc (by simp only [new_size]; omega) _
  have hsb : W.heap[nb + 1]? = some (.cells #[.slice Z n zc, .slice V0 s.evs.length vc, .slice S0 s.sent.length sc, .slice O0 s.outs.length oc] 36 (0, 0)) := by
    rw [← hW, ← hnb, alloc_blk _ _ (by simp only [new_size]; omega), alloc_blk _ _ (by simp only [new_size]; omega)]
    exact new_blk1 w _ _
  have hrb : W.heap[nb + 1 + 1]? = some (.cells #[.slice none 0 0, .slice none 0 0, .slice none 0 0, .slice none 0 0] 36 (0, 0)) := by
    rw [← hW, ← hnb, alloc_blk _ _ (by simp only [new_size]; omega)]
    have := new_blk ((w.alloc (.cells #[.slice C0 k0 q0, .slice C1 k1 q1, .slice C2 k2 q2, .slice C3 k3 q3, .slice C4 k4 q4, .int .i64 self, .int .i64 procs] 77)).alloc (.cells #[.slice Z n zc, .slice V0 s.evs.length vc, .slice S0 s.sent.length sc, .slice O0 s.outs.length oc] 36)) (.cells #[.slice none 0 0, .slice none 0 0, .slice none 0 0, .slice none 0 0] 36)
    rwa [new_size, new_size] at this
  have heb : W.heap[nb + 1 + 1 + 1]? = some (.cells #[.int .i64 self, .int .i64 procs, .int .i64 src, .int .i64 va] 81 (0, 0)) := by
    have := new_blk (((w.alloc (.cells #[.slice C0 k0 q0, .slice C1 k1 q1, .slice C2 k2 q2, .slice C3 k3 q3, .slice C4 k4 q4, .int .i64 self, .int .i64 procs] 77)).alloc (.cells #[.slice Z n zc, .slice V0 s.evs.length vc, .slice S0 s.sent.length sc, .slice O0 s.outs.length oc] 36)).alloc (.cells #[.slice none 0 0, .slice none 0 0, .slice none 0 0, .slice none 0 0] 36)) (.cells #[.int .i64 self, .int .i64 procs, .int .i64 src, .int .i64 va] 81)
    rw [new_size, new_size, new_size, hnb, hW] at this
    exact this
  obtain ⟨b0, _, _, _⟩ := box4 hsb
  obtain ⟨d0, d1, d2, d3⟩ := box4 heb
  have HC := Lib.hid (run_any ⟨self, procs, src, va⟩ body s.cells hbig W A len c Z n zc (hl.still (fun k h1 h2 => ⟨Nat.lt_of_lt_of_le h2 hb4.size, hb4.block k h2⟩)) (hz.below (by decide) hb4) hn h0 hm)
  have HB4 := Lib.hid hb4
  have HSB := Lib.hid hsb
  have HRB := Lib.hid hrb
  have HS := Lib.hid hs
  have HNC : Hid (s.cells.length = n) := hn.symm
  have HLE : Hid ((runR ⟨self, procs, src, va⟩ body s.cells).cells.length = s.cells.length) := (runR_le _ body s.cells).len
  have HOK := Lib.hid (runR_ok ⟨self, procs, src, va⟩ body s.cells)
  have HZ0 := Lib.hid hz0
  have HNB := Lib.hid hnb
  obtain ⟨nv, hnv⟩ : ∃ x, s.evs.length = x := ⟨_, rfl⟩
  have HNV := Lib.hid hnv
  obtain ⟨ns, hns⟩ : ∃ x, s.sent.length = x := ⟨_, rfl⟩
  have HNS := Lib.hid hns
  obtain ⟨no, hno⟩ : ∃ x, s.outs.length = x := ⟨_, rfl⟩
  have HNO := Lib.hid hno
  rw [hnv, hns, hno] at hW HSB
  rw [hnv, hns, hno]
  have HFW := Lib.hid hf1
  clear hn hz hl hs hb4 hsb hrb heb hz0 hbig hnv hns hno hf1
  go_enter Tryd.func36, Tryd.ntmps36
  go_upto_region 2 with fail
  clear hW
  go_wp2_with fail
  refine HC.out.mono ?_
  rintro e w5 ⟨Z', zc', E, ec, rfl, hcell, heff, hb5⟩
  clear HC
  have HB5 := Lib.hid hb5
  have HCE := Lib.hid hcell
  have HEF := Lib.hid heff
  have hsb5 := below_blk hb5 HSB.out
  have HSB5 := Lib.hid hsb5
  obtain ⟨b0', b1, _, _⟩ := box4 hsb5
  have f0 := frz hsb5 0
  have hz5 : nb + 1 + 1 + 1 + 1 ≤ w5.heap.size := by have := hb5.size; have := HZ0.out; omega
  have hs5 : nb + 1 < w5.heap.size := by omega
  clear b0 d0 d1 d2 d3 hcell heff hb5 hsb5
  obtain ⟨l, hl⟩ : ∃ x, (runR ⟨self, procs, src, va⟩ body s.cells).effs = x := ⟨_, rfl⟩
  rw [hl] at HEF
  have HLL := Lib.hid hl
  have hok : EffsOk ⟨self, procs, src, va⟩ (runR ⟨self, procs, src, va⟩ body s.cells) := HOK.out
  unfold EffsOk at hok
  rw [hl] at hok
  have HOL := Lib.hid hok.2
  have hl8 := hok.1
  simp only [HNC.out, hl]
  obtain ⟨ne, hne⟩ : ∃ x, l.length = x := ⟨_, rfl⟩
  have HNE := Lib.hid hne
  rw [hne] at HEF hl8
  simp only [hne]
  obtain ⟨fu, hfu⟩ : ∃ x, (400 - (((runR ⟨self, procs, src, va⟩ body s.cells).fuel : Nat) : Int)) = x := ⟨_, rfl⟩
  simp only [hfu]
  clear hl hok hne hfu HOK
  go_upto_block 0 with fail
  obtain ⟨w6, hw6⟩ : ∃ x, w5.setCell ⟨nb + 1, 0, none⟩ (.slice Z' n zc') = x := ⟨_, rfl⟩
  have HW6 : Hid (w6 = w5.setCell ⟨nb + 1, 0, none⟩ (.slice Z' n zc')) := hw6.symm
  have h6z : w6.heap.size = w5.heap.size := by rw [← hw6, set_size]
  have hsb6 : w6.heap[nb + 1]? = some (.cells #[.slice Z' n zc', .slice V0 nv vc, .slice S0 ns sc, .slice O0 no oc] 36 (0, 0)) := by
    rw [← hw6, blk_set HSB5.out]; rfl
  have hrb6 : w6.heap[nb + 1 + 1]? = some (.cells #[.slice none 0 0, .slice none 0 0, .slice none 0 0, .slice none 0 0] 36 (0, 0)) := by
    rw [← hw6, Below.heap_setCell _ _ _ _ (by show nb + 1 + 1 ≠ nb + 1; omega)]; exact below_blk HB5.out HRB.out
  have low : ∀ (j : Nat), j < nb → w6.heap[j]? = w.heap[j]? := fun j hj => by
    have h1 := HNB.out
    have h2 := HZ0.out
    rw [← hw6, Below.heap_setCell _ _ _ _ (by show j ≠ nb + 1; omega), HB5.out.block j (by omega), HB4.out.block j (by omega)]
  have hef6 : w6.ownsRow W.heap.size 108 3 (.slice E ne ec) ne (effC l) := by
    rw [← hw6]; exact own_set HEF.out _ (fun e => by have := (HEF.out.lt _ e).1; have := HZ0.out; simp at *; omega) _
  have HS' := HS.out
  rw [HNV.out, HNS.out, HNO.out] at HS'
  obtain ⟨Q, hQ⟩ : ∃ x, addE (nv : Int) 0 l (s.sent, s.outs) = x := ⟨_, rfl⟩
  have hX : XHead base (nv : Int) Q w6 (nb + 1) n zc' Z' (.slice V0 nv vc) (.slice S0 ns sc) (.slice O0 no oc) (l.drop 0) 0 s.sent s.outs (.slice S0 ns sc) (.slice O0 no oc) w6 := by
    have h1 := HNB.out
    refine ⟨by rw [List.drop_zero]; exact hQ, ?_, ?_, hsb6, own_at HS'.sent (fun j hj => low j (by have := (HS'.sent.lt j hj).2; omega)), own_at HS'.outs (fun j hj => low j (by have := (HS'.outs.lt j hj).2; omega)), HS'.so, FrL.refl _ _, fun e => by have := (HS'.sent.lt _ e).2; omega, fun e => by have := (HS'.outs.lt _ e).2; omega⟩
    · have := HNE.out; simp only [List.drop_zero]; omega
    · have := HNE.out; have := HNS.out; have := HNO.out; have := HFW.out; simp only [List.drop_zero]; omega
  have HX := Lib.hid hX
  have HQ := Lib.hid hQ
  have HRB6 := Lib.hid hrb6
  have HEF6 := Lib.hid hef6
  have HLOW := Lib.hid low
  simp only [hw6]
  clear hw6 h6z hsb6 hrb6 low hef6 HS' hX hQ b0' b1 f0 hz5 hs5
  go_wp2_with fail
  go_loopg [16, 42] ne (fun g o i wr => ∃ (k : Nat) (o' : Int) (s' t' : List (List Int)) (S' O' : Value), k + g = ne ∧ i = .int .i64 k ∧ o = .int .i64 o' ∧ Hid (XHead base (nv : Int) Q w6 (nb + 1) n zc' Z' (.slice V0 nv vc) (.slice S0 ns sc) (.slice O0 no oc) (l.drop k) o' s' t' S' O' wr))
  case atStart => exact ⟨0, 0, s.sent, s.outs, .slice S0 ns sc, .slice O0 no oc, by omega, rfl, rfl, HX⟩
  case round =>
    obtain ⟨k, o', s', t', S', O', hkg, rfl, rfl, HX'⟩ := hrel
    cases gk with
    | zero =>
      have hge : ne ≤ k := by omega
      have hXe := HX'.out
      rw [List.drop_eq_nil_of_le (by have := HNE.out; omega)] at hXe
      obtain ⟨S1, sc1, rfl⟩ := own_slice hXe.sent
      obtain ⟨O1, oc1, rfl⟩ := own_slice hXe.outs
      have HE : Hid (ExePost base (exeP ⟨self, procs, src, va⟩ body s) (.slice V0 nv vc) (.slice S0 ns sc) (.slice O0 no oc) w (.returned (.agg #[.slice Z' n zc', .slice V0 nv vc, .slice S1 s'.length sc1, .slice O1 t'.length oc1])) (set4 wr (nb + 1 + 1) (.slice Z' n zc') (.slice V0 nv vc) (.slice S1 s'.length sc1) (.slice O1 t'.length oc1))) := by
        have hn' : (runR ⟨self, procs, src, va⟩ body s.cells).cells.length = n := HLE.out.trans HNC.out
        have HS' := HS.out
        rw [HNV.out, HNS.out, HNO.out] at HS'
        have hce := HCE.out
        rw [HNC.out] at hce
        have hh := exe_end (self := self) (procs := procs) (src := src) (va := va) (body := body) (w := w) (W := W) (w5 := w5) (w6 := w6) (wr := wr) (Q := Q) (Z := Z') (zc := zc') HNB.out HZ0.out HS' HB4.out HB5.out (by rw [hn']; exact HW6.out) (by rw [hn']; exact hce) (by rw [HNV.out, HLL.out]; exact HQ.out) (by rw [hn', HNV.out]; exact hXe)
        rw [hn'] at hh
        exact hh
      obtain ⟨b0, b1, b2, b3⟩ := box4 hXe.box
      have hrb : wr.heap[nb + 1 + 1]? = some (.cells #[.slice none 0 0, .slice none 0 0, .slice none 0 0, .slice none 0 0] 36 (0, 0)) := by
        have h1 := HNB.out
        have HS' := HS.out
        rw [HNV.out, HNS.out, HNO.out] at HS'
        refine (hXe.fr.blk (nb + 1 + 1) ⟨lt_of_block HRB6.out, fun u hu e => ?_⟩).1.trans HRB6.out
        simp only [List.mem_cons, List.not_mem_nil, or_false] at hu
        rcases hu with rfl | rfl | rfl
        · simp [Value.ownBlock] at e
        · have := (HS'.sent.lt _ e).2; omega
        · have := (HS'.outs.lt _ e).2; omega
      obtain ⟨d0, d1, d2, d3⟩ := box4 hrb
      have g0 := frz hrb 0
      have g1 := frz hrb 1
      have g2 := frz hrb 2
      have g3 := frz hrb 3
      have hz9 : nb + 1 + 1 < wr.heap.size := lt_of_block hrb
      clear hkg hXe hrb
      go_wp2_with fail
      refine bodyPost_ret (v := .agg #[.slice Z' n zc', .slice V0 nv vc, .slice S1 s'.length sc1, .slice O1 t'.length oc1]) ?_ rfl ?_
      · simp [results, Tryd.results36, go_sem, World.cell?_setCell_same, World.cell?_setCell_other, d0, d1, d2, d3]
      · exact HE.out
    | succ g =>
      have hlt : k < ne := by omega
      have HG := Lib.hid hkg
      clear hkg
      obtain ⟨e1, he1⟩ : ∃ e1, l[k]? = some e1 := ⟨_, List.getElem?_eq_getElem (by have := HNE.out; omega)⟩
      have HDR : Hid (l.drop k = e1 :: l.drop (k + 1)) := by
        show _ = _
        obtain ⟨hk, he⟩ := List.getElem?_eq_some_iff.1 he1
        rw [← he]
        exact List.drop_eq_getElem_cons hk
      have hef : RwAt wr 3 (effC l) E ne := by
        have h1 := HNB.out
        have h2 := HZ0.out
        have HS' := HS.out
        rw [HNV.out, HNS.out, HNO.out] at HS'
        refine RwAt.own (own_fr HEF6.out HX'.out.fr fun u hu j h3 h4 => ?_)
        have h5 := (HEF6.out.lt j h3).1
        simp only [List.mem_cons, List.not_mem_nil, or_false] at hu
        rcases hu with rfl | rfl | rfl
        · simp [Value.ownBlock] at h4; omega
        · have := (HS'.sent.lt _ h4).2; omega
        · have := (HS'.outs.lt _ h4).2; omega
      obtain ⟨eb, eo, rfl, -⟩ := hef.2 (by omega)
      obtain ⟨y0, y1, y2⟩ := eff_at hef HNE.out.symm rfl he1
      have hok1 := HOL.out e1 (List.mem_of_getElem? he1)
      obtain ⟨x0, x1, x2⟩ := e1
      simp only at y0 y1 y2
      have hXd := HX'.out
      rw [HDR.out] at hXd
      obtain ⟨S1, sc1, rfl⟩ := own_slice hXd.sent
      obtain ⟨O1, oc1, rfl⟩ := own_slice hXd.outs
      have HXD := Lib.hid hXd
      have ho := hXd.ord
      simp only [List.length_cons] at ho
      have ho1 : 0 ≤ o' := ho.1
      have ho2 : o' + 1 ≤ 8 := by omega
      have hfew := hXd.few
      have HSE := Lib.hid hXd.sent
      have HOU := Lib.hid hXd.outs
      have hbox := hXd.box
      obtain ⟨b0, b1, b2, b3⟩ := box4 hbox
      have g2 := frz hbox 2
      have g3 := frz hbox 3
      have hzb : nb + 1 < wr.heap.size := lt_of_block hbox
      have hbs : base ≤ wr.heap.size := by have := HB4.out.size; have := HB5.out.size; have := hXd.fr.size; rw [HW6.out, set_size] at this; omega
      have heb : eb < wr.heap.size := World.block_lt_of_cell? wr _ y0
      have HSBS := Lib.hid hXd.sbs
      have HSBO := Lib.hid hXd.sbo
      obtain ⟨n1, hn1⟩ : ∃ x, s'.length = x := ⟨_, rfl⟩
      obtain ⟨n2, hn2⟩ : ∃ x, t'.length = x := ⟨_, rfl⟩
      rw [hn1] at b2 HSE HSBS
      rw [hn2] at b3 HOU HSBO
      rw [hn1, hn2] at hfew
      rw [hn1, hn2] at HXD
      have HN1 := Lib.hid hn1
      have HN2 := Lib.hid hn2
      have hk' : (k : Int) < (ne : Int) := by omega
      have hff : n1 + n2 ≤ 2000000 := by omega
      clear hef he1 hXd hbox hfew ho hn1 hn2
      by_cases hx0 : x0 = 1
      · subst hx0
        clear hok1
        obtain ⟨i0, hi, hz0, hz1, hz2⟩ := info_parts info_S
        have HI := Lib.hid hi
        have HI0 := Lib.hid hz0
        have HI1 := Lib.hid hz1
        have HI2 := Lib.hid hz2
        clear hi hz0 hz1 hz2
        go_wp2_with (at_builtin; refine wpList_append_own_at _ rfl (.tmp 51) (.tmp 59) 33 rfl base 64 i0 _ 4 32 Tryd.underlying33 HI.out HI0.out HI1.out HI2.out rfl (by decide) (.slice S1 n1 sc1) n1 (rowC s') (by simp [Act.eval]) (own_bel HSE.out (rp_2 _ _ _)) ⟨wr.heap.size + 1, 0, none⟩ 1 1 [.int .i64 nv, .int .i64 o', .int .i64 x1, .int .i64 x2] (by simp [Act.eval]) rfl (rp_cells2 _ _ _ _) (by simp [Value.oneCell']) (by unfold maxLen; omega) (by omega) (by simp only [new_size]; omega) ?_; intro v9 w9 hown9 hgrow9 hnil9 hob9; obtain ⟨A9, q9, rfl⟩ := own_slice hown9; have HOW := Lib.hid hown9; have HGR := Lib.hid hgrow9; have HOB := Lib.hid hob9; have hm9 : w9.heap[nb + 1]? = wr.heap[nb + 1]? := (hgrow9.block (nb + 1) (by simp only [new_size]; omega) (fun e => HSBS.out e.symm)).trans ((rp_2 wr _ _).block (nb + 1) hzb); have c9 : w9.cell? ⟨nb + 1, 2, none⟩ = some (.slice S1 n1 sc1) := (World.cell?_of_block (w := wr) (a := ⟨nb + 1, 2, none⟩) hm9).trans b2; have f9 : w9.frozen? ⟨nb + 1, 2, none⟩ = false := (World.frozen?_of_block (w := wr) (a := ⟨nb + 1, 2, none⟩) hm9).trans g2; have hz9 : nb + 1 < w9.heap.size := World.block_lt_of_cell? w9 _ c9; clear hown9 hgrow9 hob9 hm9 hnil9)
        have HXN := XHead.sent' HXD.out rfl (rp_2 wr _ _) (by rw [HN1.out]; exact HOW.out) HGR.out (by rw [new_size, new_size] at HOB ⊢; exact HOB.out)
        go_roundg g
        case rel => exact ⟨k + 1, o' + 1, _, _, _, _, by have := HG.out; omega, by go_num, by go_num, HXN⟩
        case measure => omega
      · have hx2 : x0 = 2 := by
          unfold EffOk at hok1
          rcases hok1 with h | h
          · exact absurd h.1 hx0
          · exact h
        subst hx2
        clear hok1
        obtain ⟨i0, hi, hz0, hz1, hz2⟩ := info_parts info_O
        have HI := Lib.hid hi
        have HI0 := Lib.hid hz0
        have HI1 := Lib.hid hz1
        have HI2 := Lib.hid hz2
        clear hi hz0 hz1 hz2 hx0
        go_wp2_with (at_builtin; refine wpList_append_own_at _ rfl (.tmp 67) (.tmp 72) 34 rfl base 66 i0 _ 2 16 Tryd.underlying34 HI.out HI0.out HI1.out HI2.out rfl (by decide) (.slice O1 n2 oc1) n2 (rowC t') (by simp [Act.eval]) (own_bel HOU.out (rp_2 _ _ _)) ⟨wr.heap.size + 1, 0, none⟩ 1 1 [.int .i64 nv, .int .i64 x2] (by simp [Act.eval]) rfl (rp_cells2 _ _ _ _) (by simp [Value.oneCell']) (by unfold maxLen; omega) (by omega) (by simp only [new_size]; omega) ?_; intro v9 w9 hown9 hgrow9 hnil9 hob9; obtain ⟨A9, q9, rfl⟩ := own_slice hown9; have HOW := Lib.hid hown9; have HGR := Lib.hid hgrow9; have HOB := Lib.hid hob9; have hm9 : w9.heap[nb + 1]? = wr.heap[nb + 1]? := (hgrow9.block (nb + 1) (by simp only [new_size]; omega) (fun e => HSBO.out e.symm)).trans ((rp_2 wr _ _).block (nb + 1) hzb); have c9 : w9.cell? ⟨nb + 1, 3, none⟩ = some (.slice O1 n2 oc1) := (World.cell?_of_block (w := wr) (a := ⟨nb + 1, 3, none⟩) hm9).trans b3; have f9 : w9.frozen? ⟨nb + 1, 3, none⟩ = false := (World.frozen?_of_block (w := wr) (a := ⟨nb + 1, 3, none⟩) hm9).trans g3; have hz9 : nb + 1 < w9.heap.size := World.block_lt_of_cell? w9 _ c9; clear hown9 hgrow9 hob9 hm9 hnil9)
        have HXN := XHead.outs' HXD.out (show (2 : Int) ≠ 1 by decide) (rp_2 wr _ _) (by rw [HN2.out]; exact HOW.out) HGR.out (by rw [new_size, new_size] at HOB ⊢; exact HOB.out)
        go_roundg g
        case rel => exact ⟨k + 1, o', _, _, _, _, by have := HG.out; omega, by go_num, rfl, HXN⟩
        case measure => omega
end Go.Proofs.YtgblgkkbggdopaaDoor

/-
  What handler and next of package process do (gens48.py writes this text). Conditions: those of WalkPx.
-/
namespace Go.Proofs.YtgblgkkbggdopaaDoor
open Go.RowKit

/-- A resolved program in memory, below block B. -/
structure CdAt (B : Nat) (w : World) (c : Cd) (C0 C1 C2 C3 C4 : Option Addr) (k0 q0 k1 q1 k2 q2 k3 q3 k4 q4 : Nat) : Prop where
  init : RwAt w 1 (c.init.map (Value.int .i64)) C0 k0
  low : ∀ b o, C0 = some ⟨b, o, none⟩ → b < B
  len : k0 = c.init.length
  pos : 0 < k0
  few : k0 ≤ 1000000
  start : StSlice (fun k => k < B) w c.start (.slice C1 k1 q1)
  message : StSlice (fun k => k < B) w c.message (.slice C2 k2 q2)
  tick : StSlice (fun k => k < B) w c.tick (.slice C3 k3 q3)
  input : StSlice (fun k => k < B) w c.input (.slice C4 k4 q4)
  big : St.bigL c.start ≤ 100000 ∧ St.bigL c.message ≤ 100000 ∧ St.bigL c.tick ≤ 100000 ∧ St.bigL c.input ≤ 100000
theorem RwAt.at' {w w' : World} {k n : Nat} {cs : List Value} {A : Option Addr} (h : RwAt w k cs A n) (hk : ∀ b o, A = some ⟨b, o, none⟩ → w'.heap[b]? = w.heap[b]?) : RwAt w' k cs A n := by
  refine ⟨h.1, fun h0 => ?_⟩
  obtain ⟨b, o, hA, hc⟩ := h.2 h0
  exact ⟨b, o, hA, hc.of_block (hk b o hA)⟩
theorem CdAt.at' {B : Nat} {w w' : World} {c : Cd} {C0 C1 C2 C3 C4 : Option Addr} {k0 q0 k1 q1 k2 q2 k3 q3 k4 q4 : Nat} (h : CdAt B w c C0 C1 C2 C3 C4 k0 q0 k1 q1 k2 q2 k3 q3 k4 q4) (hk : ∀ k, k < B → w'.heap[k]? = w.heap[k]?) : CdAt B w' c C0 C1 C2 C3 C4 k0 q0 k1 q1 k2 q2 k3 q3 k4 q4 :=
  have st : Still (fun k => k < B) (fun k => k < B) w w' := fun k h1 _ => ⟨h1, hk k h1⟩
  ⟨h.init.at' fun b o e => hk b (h.low b o e), h.low, h.len, h.pos, h.few, h.start.still st, h.message.still st, h.tick.still st, h.input.still st, h.big⟩

/-- The handler of a kind of event. -/
def bdV (kd : Int) (C2 C3 C4 : Option Addr) (k2 q2 k3 q3 k4 q4 : Nat) : Value := if kd = 1 then .slice C2 k2 q2 else if kd = 2 then .slice C3 k3 q3 else if kd = 3 then .slice C4 k4 q4 else .slice none 0 0

set_option maxHeartbeats 2000000 in
set_option maxRecDepth 100000 in
theorem handler_ev (self procs : Int) (C0 : Option Addr) (C1 : Option Addr) (C2 : Option Addr) (C3 : Option Addr) (C4 : Option Addr) (k0 q0 k1 q1 k2 q2 k3 q3 k4 q4 : Nat) (x0 x1 x2 x3 x4 x5 x6 : Int) (w : World) :
    Calls Tryd.prog 59 #[.agg #[.slice C0 k0 q0, .slice C1 k1 q1, .slice C2 k2 q2, .slice C3 k3 q3, .slice C4 k4 q4, .int .i64 self, .int .i64 procs], .agg #[.int .i64 x0, .int .i64 x1, .int .i64 x2, .int .i64 x3, .int .i64 x4, .int .i64 x5, .int .i64 x6]] w fun e w' => e = .returned (.tuple #[bdV x0 C2 C3 C4 k2 q2 k3 q3 k4 q4, .int .i64 (if x0 = 1 then x2 else self)]) ∧ Below w.heap.size w w' := by
  obtain ⟨nb, hnb⟩ : ∃ x, w.heap.size = x := ⟨_, rfl⟩
  obtain ⟨W, hW⟩ : ∃ x, ((w.alloc (.cells #[.slice C0 k0 q0, .slice C1 k1 q1, .slice C2 k2 q2, .slice C3 k3 q3, .slice C4 k4 q4, .int .i64 self, .int .i64 procs] 77)).alloc (.cells #[.int .i64 x0, .int .i64 x1, .int .i64 x2, .int .i64 x3, .int .i64 x4, .int .i64 x5, .int .i64 x6] 42)) = x := ⟨_, rfl⟩
  have hz0 : W.heap.size = nb + 1 + 1 := by rw [← hW, ← hnb]; simp only [new_size]
  have hb4 : Below w.heap.size w W := by rw [← hW]; exact (((Below.refl _ _).alloc (Nat.le_refl _) _).alloc (by simp only [new_size]; omega) _)
  have hB0 : W.heap[nb]? = some (.cells #[.slice C0 k0 q0, .slice C1 k1 q1, .slice C2 k2 q2, .slice C3 k3 q3, .slice C4 k4 q4, .int .i64 self, .int .i64 procs] 77 (0, 0)) := by
    have h := new_blk w (.cells #[.slice C0 k0 q0, .slice C1 k1 q1, .slice C2 k2 q2, .slice C3 k3 q3, .slice C4 k4 q4, .int .i64 self, .int .i64 procs] 77)
    rw [hnb] at h
    rw [← hW]; rw [alloc_blk _ _ (by simp only [new_size]; omega)]; exact h
  have hB1 : W.heap[nb + 1]? = some (.cells #[.int .i64 x0, .int .i64 x1, .int .i64 x2, .int .i64 x3, .int .i64 x4, .int .i64 x5, .int .i64 x6] 42 (0, 0)) := by
    have h := new_blk (w.alloc (.cells #[.slice C0 k0 q0, .slice C1 k1 q1, .slice C2 k2 q2, .slice C3 k3 q3, .slice C4 k4 q4, .int .i64 self, .int .i64 procs] 77)) (.cells #[.int .i64 x0, .int .i64 x1, .int .i64 x2, .int .i64 x3, .int .i64 x4, .int .i64 x5, .int .i64 x6] 42)
    simp only [new_size, hnb] at h
    rw [← hW]; exact h
  have HB4 := Lib.hid hb4
  obtain ⟨p0, p1, p2, p3, p4, p5, p6⟩ := box7 hB0
  obtain ⟨y0, y1, y2, y3, y4, y5, y6⟩ := box7 hB1
  have hdn : ∀ q, Below W.heap.size W (W.drewN q) := fun q => below_drewN (Below.refl _ _) q
  have HD : Hid (∀ q, Below w.heap.size w (W.drewN q)) := fun q => HB4.out.trans ((hdn q).mono HB4.out.size)
  clear hB0 hB1 hz0 hb4 hdn
  unfold bdV
  by_cases h1 : x0 = 1
  · subst h1
    rw [if_pos rfl, if_pos rfl]
    go_enter Tryd.func59, Tryd.ntmps59
    go_upto_region 3 with fail
    clear hW
    go_quiet (fail)
    go_wp2_with fail
    go_ret2
    exact ⟨rfl, HD.out _⟩
  rw [if_neg h1, if_neg h1]
  have g1 : (x0 == 1) = false := by simpa using h1
  by_cases h2 : x0 = 2
  · subst h2
    rw [if_pos rfl]
    clear h1 g1
    go_enter Tryd.func59, Tryd.ntmps59
    go_upto_region 5 with fail
    clear hW
    go_quiet (fail)
    go_wp2_with fail
    go_ret2
    exact ⟨rfl, HD.out _⟩
  rw [if_neg h2]
  have g2 : (x0 == 2) = false := by simpa using h2
  by_cases h3 : x0 = 3
  · subst h3
    rw [if_pos rfl]
    clear h1 g1 h2 g2
    go_enter Tryd.func59, Tryd.ntmps59
    go_upto_region 7 with fail
    clear hW
    go_quiet (fail)
    go_wp2_with fail
    go_ret2
    exact ⟨rfl, HD.out _⟩
  rw [if_neg h3]
  have g3 : (x0 == 3) = false := by simpa using h3
  clear h1 h2 h3
  go_enter Tryd.func59, Tryd.ntmps59
  go_upto_region 8 with fail
  clear hW
  go_quiet (fail)
  go_wp2_with fail
  go_ret2
  exact ⟨rfl, HD.out _⟩
end Go.Proofs.YtgblgkkbggdopaaDoor
