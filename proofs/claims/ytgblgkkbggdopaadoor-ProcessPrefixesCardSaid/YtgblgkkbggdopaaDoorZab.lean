/-
  Texts of a walk, laid together by a program of the prover's own (merge.py). No conditions beyond those that each text names.
-/
import Derived.Test.YtgblgkkbggdopaaDoorZaa
import Derived.Deep.LoopGhost
import Derived.Deep.QuietTactic
import Derived.BigQuiet
import Derived.Lib.Hide
import Derived.Lib.Strings
import Derived.WalkLawsBesides
import Derived.RegionTactic
import Derived.StillTailTactics
import Derived.Laws.Rows
import Derived.Laws.Tables
import Derived.MapKept
import Derived.Lib.Builder
import Derived.OneCell
import Derived.Deep.RegionHeld3
import Derived.Deep.RegionHeld2
import Derived.Deep.DeepCutAuto
import Derived.Maps.AppendAt
import Derived.Maps.Views
import Derived.Laws.Pointers
import Derived.Tactics2
import Derived.ChangeSlices
import Derived.RowKit
import Derived.ChangeAt
/-
  Plain mathematics of chapter 2, syntax: programs, and the program of a list of tokens. Parsing is a function of a bound on its depth; a bound that is great enough never shows. No conditions.
-/
namespace Go.Proofs.YtgblgkkbggdopaaDoor

/-- An expression. -/
inductive Ex where
  | mk (op value : Int) (name : List UInt8) (slot size : Int) (args : List Ex)
/-- A statement. -/
inductive St where
  | mk (kind : Int) (name : List UInt8) (slot size : Int) (place value : Ex) (body els : List St)
/-- A declaration. -/
structure Vr where
  name : List UInt8
  size : Int
  init : Int
/-- A program. -/
structure Pr where
  vars : List Vr
  start : List St
  message : List St
  tick : List St
  input : List St

def ex0 : Ex := .mk 0 0 [] 0 0 []
def pr0 : Pr := ⟨[], [], [], [], []⟩

/-- What parsing gives: a thing and the tokens behind it, the tokens from the one on that does not fit, or no answer as the bound is too small. -/
inductive Res (α : Type) where
  | ok (a : α) (ts : List Tok)
  | fail (ts : List Tok)
  | out

def Res.bind {α β : Type} : Res α → (α → List Tok → Res β) → Res β
  | .ok a ts, f => f a ts
  | .fail ts, _ => .fail ts
  | .out, _ => .out

def txt : List Tok → List UInt8
  | [] => []
  | t :: _ => t.text
def knd : List Tok → Int
  | [] => 0
  | t :: _ => t.kind
def vlu : List Tok → Int
  | [] => 0
  | t :: _ => t.value
def posOf (e : Nat) : List Tok → Nat
  | [] => e
  | t :: _ => t.off

/-- What the tokens of a text are: words, numbers and signs. -/
def TokOK (t : Tok) : Prop :=
  t.text.length ≤ 4096 ∧ 0 ≤ t.value ∧ t.value < 9223372036854775808 ∧
  ((t.kind = 1 ∧ ∃ c r, t.text = c :: r ∧ letterC c.toNat = true) ∨ (t.kind = 2 ∧ t.text = []) ∨ (t.kind = 3 ∧ ∃ c r, t.text = c :: r ∧ letterC c.toNat = false))

/-- The signs and words that make expressions: text, operator, level. -/
def symTab : List (List UInt8 × Int × Int) :=
  [([124, 124], 22, 0), ([38, 38], 21, 1), ([61, 61], 19, 2), ([33, 61], 20, 2), ([60], 15, 2), ([60, 61], 16, 2), ([62], 17, 2), ([62, 61], 18, 2),
   ([43], 10, 3), ([45], 11, 3), ([42], 12, 4), ([47], 13, 4), ([37], 14, 4), ([45], 8, 5), ([33], 9, 5),
   ([115, 101, 108, 102], 4, 6), ([112, 114, 111, 99, 115], 5, 6), ([102, 114, 111, 109], 6, 6), ([118, 97, 108, 117, 101], 7, 6)]

/-- The operator of a sign at a level, 0 if it has none. -/
def symIn : List (List UInt8 × Int × Int) → Int → List UInt8 → Int
  | [], _, _ => 0
  | (s, op, l) :: r, n, x => if l = n ∧ x = s then op else symIn r n x
def symS (n : Int) (ts : List Tok) : Int := symIn symTab n (txt ts)

def expectS (s : List UInt8) (ts : List Tok) : Res Unit := if txt ts = s then .ok () ts.tail else .fail ts
def nameS (ts : List Tok) : Res (List UInt8) := if knd ts = 1 ∧ validS (txt ts) = true then .ok (txt ts) ts.tail else .fail ts
def numS (least : Int) (ts : List Tok) : Res Int := if knd ts = 2 ∧ least ≤ vlu ts then .ok (vlu ts) ts.tail else .fail ts

mutual
/-- Operands of a level with the operators between them. -/
def pBin : Nat → Nat → List Tok → Res Ex
  | 0, _, _ => .out
  | f + 1, n, ts => if n = 5 then pUn f ts else (pBin f (n + 1) ts).bind fun e t => pLoop f n e t
def pLoop : Nat → Nat → Ex → List Tok → Res Ex
  | 0, _, _, _ => .out
  | f + 1, n, e, ts => if symS n ts = 0 then .ok e ts else (pBin f (n + 1) ts.tail).bind fun e2 t => pLoop f n (.mk (symS n ts) 0 [] 0 0 [e, e2]) t
def pUn : Nat → List Tok → Res Ex
  | 0, _ => .out
  | f + 1, ts => if symS 5 ts = 0 then pPrim f ts else (pUn f ts.tail).bind fun e t => .ok (.mk (symS 5 ts) 0 [] 0 0 [e]) t
def pPrim : Nat → List Tok → Res Ex
  | 0, _ => .out
  | f + 1, ts =>
    if symS 6 ts ≠ 0 then .ok (.mk (symS 6 ts) 0 [] 0 0 []) ts.tail
    else if txt ts = [40] then (pBin f 0 ts.tail).bind fun e t => (expectS [41] t).bind fun _ t => .ok e t
    else if knd ts = 2 then (numS 0 ts).bind fun v t => .ok (.mk 1 v [] 0 0 []) t
    else (nameS ts).bind fun nm t =>
      if txt t = [91] then (pBin f 0 t.tail).bind fun e t => (expectS [93] t).bind fun _ t => .ok (.mk 3 0 nm 0 0 [e]) t
      else .ok (.mk 2 0 nm 0 0 []) t
end

mutual
def pBlock : Nat → List Tok → Res (List St)
  | 0, _ => .out
  | f + 1, ts => (expectS [123] ts).bind fun _ t => pStmts f [] t
def pStmts : Nat → List St → List Tok → Res (List St)
  | 0, _, _ => .out
  | f + 1, acc, ts => if txt ts = [125] then .ok acc ts.tail else (pStmt f ts).bind fun s t => pStmts f (acc ++ [s]) t
def pStmt : Nat → List Tok → Res St
  | 0, _ => .out
  | f + 1, ts =>
    if txt ts = [105, 102] then (pBin f 0 ts.tail).bind fun c t => (pBlock f t).bind fun b t =>
      if txt t = [101, 108, 115, 101] then (pBlock f t.tail).bind fun e t => .ok (.mk 3 [] 0 0 ex0 c b e) t
      else .ok (.mk 3 [] 0 0 ex0 c b []) t
    else if txt ts = [119, 104, 105, 108, 101] then (pBin f 0 ts.tail).bind fun c t => (pBlock f t).bind fun b t => .ok (.mk 4 [] 0 0 ex0 c b []) t
    else if txt ts = [115, 101, 110, 100] then (pBin f 0 ts.tail).bind fun p t => (expectS [44] t).bind fun _ t => (pBin f 0 t).bind fun v t => (expectS [59] t).bind fun _ t => .ok (.mk 5 [] 0 0 p v [] []) t
    else if txt ts = [111, 117, 116, 112, 117, 116] then (pBin f 0 ts.tail).bind fun v t => (expectS [59] t).bind fun _ t => .ok (.mk 6 [] 0 0 ex0 v [] []) t
    else (nameS ts).bind fun nm t =>
      if txt t = [91] then (pBin f 0 t.tail).bind fun p t => (expectS [93] t).bind fun _ t => (expectS [61] t).bind fun _ t => (pBin f 0 t).bind fun v t => (expectS [59] t).bind fun _ t => .ok (.mk 2 nm 0 0 p v [] []) t
      else (expectS [61] t).bind fun _ t => (pBin f 0 t).bind fun v t => (expectS [59] t).bind fun _ t => .ok (.mk 1 nm 0 0 ex0 v [] []) t
end

/-- What follows the word var. -/
def pVar (ts : List Tok) : Res Vr := (nameS ts).bind fun nm t =>
  if txt t = [61] then
    if txt t.tail = [45] then (numS 0 t.tail.tail).bind fun v t => (expectS [59] t).bind fun _ t => .ok ⟨nm, 0, -v⟩ t
    else (numS 0 t.tail).bind fun v t => (expectS [59] t).bind fun _ t => .ok ⟨nm, 0, v⟩ t
  else (expectS [59] t).bind fun _ t => .ok ⟨nm, 0, 0⟩ t
/-- What follows the word array. -/
def pArr (ts : List Tok) : Res Vr := (nameS ts).bind fun nm t => (expectS [91] t).bind fun _ t => (numS 1 t).bind fun v t => (expectS [93] t).bind fun _ t => (expectS [59] t).bind fun _ t => .ok ⟨nm, v, 0⟩ t
def pDecls : Nat → List Vr → List Tok → Res (List Vr)
  | 0, _, _ => .out
  | f + 1, acc, ts =>
    if txt ts = [118, 97, 114] then (pVar ts.tail).bind fun v t => pDecls f (acc ++ [v]) t
    else if txt ts = [97, 114, 114, 97, 121] then (pArr ts.tail).bind fun v t => pDecls f (acc ++ [v]) t
    else .ok acc ts

/-- The bodies of the handlers that there were so far. -/
structure Bd where
  start : Option (List St)
  message : Option (List St)
  tick : Option (List St)
  input : Option (List St)
def bd0 : Bd := ⟨none, none, none, none⟩
def Bd.get (b : Bd) (w : List UInt8) : Option (Option (List St)) :=
  if w = [115, 116, 97, 114, 116] then some b.start
  else if w = [109, 101, 115, 115, 97, 103, 101] then some b.message
  else if w = [116, 105, 99, 107] then some b.tick
  else if w = [105, 110, 112, 117, 116] then some b.input
  else none
def Bd.set (b : Bd) (w : List UInt8) (l : List St) : Bd :=
  if w = [115, 116, 97, 114, 116] then { b with start := some l }
  else if w = [109, 101, 115, 115, 97, 103, 101] then { b with message := some l }
  else if w = [116, 105, 99, 107] then { b with tick := some l }
  else { b with input := some l }
def pBodies : Nat → Bd → List Tok → Res Bd
  | 0, _, _ => .out
  | f + 1, b, ts =>
    if txt ts = [111, 110] then
      match b.get (txt ts.tail) with
      | some none => (pBlock f ts.tail.tail).bind fun l t => pBodies f (b.set (txt ts.tail) l) t
      | _ => .fail ts.tail
    else .ok b ts
def pProg (f : Nat) (ts : List Tok) : Res Pr :=
  (pDecls f [] ts).bind fun vs t => (pBodies f bd0 t).bind fun b t =>
    if t = [] then .ok ⟨vs, b.start.getD [], b.message.getD [], b.tick.getD [], b.input.getD []⟩ [] else .fail t

mutual
def Ex.deep : Ex → Nat
  | .mk _ _ _ _ _ args => Ex.deepL args + 1
def Ex.deepL : List Ex → Nat
  | [] => 0
  | e :: r => max e.deep (Ex.deepL r)
end
mutual
def St.deep : St → Nat
  | .mk _ _ _ _ p v b e => 1 + max (max p.deep v.deep) (max (St.deepL b) (St.deepL e))
def St.deepL : List St → Nat
  | [] => 0
  | s :: r => max s.deep (St.deepL r)
end
def Pr.deep (p : Pr) : Nat := max (max (St.deepL p.start) (St.deepL p.message)) (max (St.deepL p.tick) (St.deepL p.input))

/-- A bound that is always great enough. -/
def bigF (ts : List Tok) : Nat := 9 * ts.length + 10

/-- P2.2: what Parse gives: a program, 0 and 0, or the zero program, a place and an error. -/
def parseS (l : List UInt8) : Pr × Nat × Int :=
  if (scanS l).err = 0 then
    match pProg (bigF (scanS l).toks) (scanS l).toks with
    | .ok p _ => if 16 < p.deep then (pr0, 0, 6) else (p, 0, 0)
    | .fail t => (pr0, posOf l.length t, 1)
    | .out => (pr0, 0, 0)
  else (pr0, (scanS l).off, (scanS l).err)

/-- The result is none of those that a bound that is too small gives, and its rest has fewer than n tokens if it is one. -/
def Res.In {α : Type} (n : Nat) : Res α → Prop
  | .ok _ t => t.length < n
  | .fail _ => True
  | .out => False

theorem Res.In.bind {α β : Type} {n m : Nat} {r : Res α} {f : α → List Tok → Res β} (h : r.In n) (hf : ∀ a t, t.length < n → (f a t).In m) : (r.bind f).In m := by
  cases r with
  | ok a t => exact hf a t h
  | fail t => exact trivial
  | out => exact h.elim
theorem Res.In.mono {α : Type} {n m : Nat} {r : Res α} (h : r.In n) (hm : n ≤ m) : r.In m := by
  cases r with
  | ok a t => exact Nat.lt_of_lt_of_le h hm
  | fail t => exact trivial
  | out => exact h.elim

theorem tail_lt {ts : List Tok} {s : List UInt8} (h : txt ts = s) (hs : s ≠ []) : ts.tail.length < ts.length := by
  cases ts with
  | nil => exact absurd h.symm hs
  | cons t r => simp
theorem knd_lt {ts : List Tok} (h : knd ts ≠ 0) : ts.tail.length < ts.length := by
  cases ts with
  | nil => exact absurd rfl h
  | cons t r => simp
theorem expectS_in (s : List UInt8) (hs : s ≠ []) (ts : List Tok) : (expectS s ts).In ts.length := by
  unfold expectS
  split
  · exact tail_lt ‹_› hs
  · exact trivial
theorem nameS_in (ts : List Tok) : (nameS ts).In ts.length := by
  unfold nameS
  split
  · rename_i h; exact knd_lt (by rw [h.1]; decide)
  · exact trivial
theorem numS_in (n : Int) (ts : List Tok) : (numS n ts).In ts.length := by
  unfold numS
  split
  · rename_i h; exact knd_lt (by rw [h.1]; decide)
  · exact trivial
theorem symIn_nil : ∀ (l : List (List UInt8 × Int × Int)) (n : Int), (∀ x ∈ l, x.1 ≠ []) → symIn l n [] = 0
  | [], _, _ => rfl
  | (s, op, k) :: r, n, h => by
    rw [symIn, if_neg (fun hh => h (s, op, k) (by simp) hh.2.symm)]
    exact symIn_nil r n fun x hx => h x (by simp [hx])
theorem symS_lt {n : Int} {ts : List Tok} (h : symS n ts ≠ 0) : ts.tail.length < ts.length := by
  cases ts with
  | nil => exact absurd (symIn_nil symTab n (by decide)) h
  | cons t r => simp

theorem pE_in : ∀ f : Nat,
    (∀ n ts, n ≤ 5 → 9 * ts.length + 8 - n ≤ f → (pBin f n ts).In ts.length) ∧
    (∀ n e ts, n ≤ 4 → 9 * ts.length + 1 ≤ f → (pLoop f n e ts).In (ts.length + 1)) ∧
    (∀ ts, 9 * ts.length + 2 ≤ f → (pUn f ts).In ts.length) ∧
    (∀ ts, 9 * ts.length + 1 ≤ f → (pPrim f ts).In ts.length)
  | 0 => ⟨fun n ts h1 h => by omega, fun n e ts _ h => by omega, fun ts h => by omega, fun ts h => by omega⟩
  | f + 1 => by
    obtain ⟨hB, hL, hU, hP⟩ := pE_in f
    refine ⟨fun n ts h1 h => ?_, fun n e ts h1 h => ?_, fun ts h => ?_, fun ts h => ?_⟩
    · rw [pBin]
      by_cases h5 : n = 5
      · rw [if_pos h5]; exact hU ts (by omega)
      · rw [if_neg h5]
        exact (hB (n + 1) ts (by omega) (by omega)).bind fun e t ht => (hL n e t (by omega) (by omega)).mono (by omega)
    · rw [pLoop]
      by_cases h0 : symS n ts = 0
      · rw [if_pos h0]; show ts.length < ts.length + 1; omega
      · rw [if_neg h0]
        have := symS_lt h0
        exact (hB (n + 1) ts.tail (by omega) (by omega)).bind fun e2 t ht => (hL n _ t h1 (by omega)).mono (by omega)
    · rw [pUn]
      by_cases h0 : symS 5 ts = 0
      · rw [if_pos h0]; exact hP ts (by omega)
      · rw [if_neg h0]
        have := symS_lt h0
        exact (hU ts.tail (by omega)).bind fun e t ht => by show t.length < _; omega
    · rw [pPrim]
      by_cases h0 : symS 6 ts ≠ 0
      · rw [if_pos h0]; exact symS_lt h0
      · rw [if_neg h0]
        by_cases h1 : txt ts = [40]
        · rw [if_pos h1]
          have := tail_lt h1 (by decide)
          exact (hB 0 ts.tail (by omega) (by omega)).bind fun e t ht => (expectS_in _ (by decide) t).bind fun _ t' ht' => by show t'.length < _; omega
        · rw [if_neg h1]
          by_cases h2 : knd ts = 2
          · rw [if_pos h2]; exact (numS_in 0 ts).bind fun v t ht => ht
          · rw [if_neg h2]
            refine (nameS_in ts).bind fun nm t ht => ?_
            by_cases h3 : txt t = [91]
            · rw [if_pos h3]
              have := tail_lt h3 (by decide)
              exact (hB 0 t.tail (by omega) (by omega)).bind fun e t' ht' => (expectS_in _ (by decide) t').bind fun _ t2 ht2 => by show t2.length < _; omega
            · rw [if_neg h3]; exact ht

theorem pBin_in {f n : Nat} {ts : List Tok} (hn : n ≤ 5) (h : 9 * ts.length + 8 ≤ f) : (pBin f n ts).In ts.length := (pE_in f).1 n ts hn (by omega)

theorem pS_in : ∀ f : Nat,
    (∀ ts, 9 * ts.length + 1 ≤ f → (pBlock f ts).In ts.length) ∧
    (∀ acc ts, 9 * ts.length + 3 ≤ f → (pStmts f acc ts).In (ts.length + 1)) ∧
    (∀ ts, 9 * ts.length + 2 ≤ f → (pStmt f ts).In ts.length)
  | 0 => ⟨fun ts h => by omega, fun acc ts h => by omega, fun ts h => by omega⟩
  | f + 1 => by
    obtain ⟨hB, hL, hS⟩ := pS_in f
    refine ⟨fun ts h => ?_, fun acc ts h => ?_, fun ts h => ?_⟩
    · rw [pBlock]
      exact (expectS_in _ (by decide) ts).bind fun _ t ht => (hL [] t (by omega)).mono (by omega)
    · rw [pStmts]
      by_cases h0 : txt ts = [125]
      · rw [if_pos h0]; have := tail_lt h0 (by decide); show ts.tail.length < _; omega
      · rw [if_neg h0]
        exact (hS ts (by omega)).bind fun s t ht => (hL _ t (by omega)).mono (by omega)
    · rw [pStmt]
      by_cases h1 : txt ts = [105, 102]
      · rw [if_pos h1]
        have := tail_lt h1 (by decide)
        refine (pBin_in (by decide) (by omega)).bind fun c t ht => (hB t (by omega)).bind fun b t2 ht2 => ?_
        by_cases h2 : txt t2 = [101, 108, 115, 101]
        · rw [if_pos h2]
          have := tail_lt h2 (by decide)
          exact (hB t2.tail (by omega)).bind fun e t3 ht3 => by show t3.length < _; omega
        · rw [if_neg h2]; show t2.length < _; omega
      · rw [if_neg h1]
        by_cases h2 : txt ts = [119, 104, 105, 108, 101]
        · rw [if_pos h2]
          have := tail_lt h2 (by decide)
          exact (pBin_in (by decide) (by omega)).bind fun c t ht => (hB t (by omega)).bind fun b t2 ht2 => by show t2.length < _; omega
        · rw [if_neg h2]
          by_cases h3 : txt ts = [115, 101, 110, 100]
          · rw [if_pos h3]
            have := tail_lt h3 (by decide)
            exact (pBin_in (by decide) (by omega)).bind fun p t ht => (expectS_in _ (by decide) t).bind fun _ t2 ht2 => (pBin_in (by decide) (by omega)).bind fun v t3 ht3 => (expectS_in _ (by decide) t3).bind fun _ t4 ht4 => by show t4.length < _; omega
          · rw [if_neg h3]
            by_cases h4 : txt ts = [111, 117, 116, 112, 117, 116]
            · rw [if_pos h4]
              have := tail_lt h4 (by decide)
              exact (pBin_in (by decide) (by omega)).bind fun v t3 ht3 => (expectS_in _ (by decide) t3).bind fun _ t4 ht4 => by show t4.length < _; omega
            · rw [if_neg h4]
              refine (nameS_in ts).bind fun nm t ht => ?_
              by_cases h5 : txt t = [91]
              · rw [if_pos h5]
                have := tail_lt h5 (by decide)
                exact (pBin_in (by decide) (by omega)).bind fun p t1 ht1 => (expectS_in _ (by decide) t1).bind fun _ t2 ht2 => (expectS_in _ (by decide) t2).bind fun _ t3 ht3 => (pBin_in (by decide) (by omega)).bind fun v t4 ht4 => (expectS_in _ (by decide) t4).bind fun _ t5 ht5 => by show t5.length < _; omega
              · rw [if_neg h5]
                exact (expectS_in _ (by decide) t).bind fun _ t3 ht3 => (pBin_in (by decide) (by omega)).bind fun v t4 ht4 => (expectS_in _ (by decide) t4).bind fun _ t5 ht5 => by show t5.length < _; omega

theorem pBlock_in {f : Nat} {ts : List Tok} (h : 9 * ts.length + 1 ≤ f) : (pBlock f ts).In ts.length := (pS_in f).1 ts h

theorem pVar_in (ts : List Tok) : (pVar ts).In ts.length := by
  refine (nameS_in ts).bind fun nm t ht => ?_
  by_cases h1 : txt t = [61]
  · rw [if_pos h1]
    have := tail_lt h1 (by decide)
    by_cases h2 : txt t.tail = [45]
    · rw [if_pos h2]
      have := tail_lt h2 (by decide)
      exact (numS_in 0 _).bind fun v t2 ht2 => (expectS_in _ (by decide) t2).bind fun _ t3 ht3 => by show t3.length < _; omega
    · rw [if_neg h2]
      exact (numS_in 0 _).bind fun v t2 ht2 => (expectS_in _ (by decide) t2).bind fun _ t3 ht3 => by show t3.length < _; omega
  · rw [if_neg h1]
    exact (expectS_in _ (by decide) t).bind fun _ t3 ht3 => by show t3.length < _; omega
theorem pArr_in (ts : List Tok) : (pArr ts).In ts.length :=
  (nameS_in ts).bind fun nm t ht => (expectS_in _ (by decide) t).bind fun _ t1 ht1 => (numS_in 1 t1).bind fun v t2 ht2 => (expectS_in _ (by decide) t2).bind fun _ t3 ht3 => (expectS_in _ (by decide) t3).bind fun _ t4 ht4 => by show t4.length < _; omega
theorem pDecls_in : ∀ (f : Nat) (acc : List Vr) (ts : List Tok), ts.length + 1 ≤ f → (pDecls f acc ts).In (ts.length + 1)
  | 0, _, _, h => by omega
  | f + 1, acc, ts, h => by
    rw [pDecls]
    by_cases h1 : txt ts = [118, 97, 114]
    · rw [if_pos h1]
      have := tail_lt h1 (by decide)
      exact (pVar_in _).bind fun v t ht => (pDecls_in f _ t (by omega)).mono (by omega)
    · rw [if_neg h1]
      by_cases h2 : txt ts = [97, 114, 114, 97, 121]
      · rw [if_pos h2]
        have := tail_lt h2 (by decide)
        exact (pArr_in _).bind fun v t ht => (pDecls_in f _ t (by omega)).mono (by omega)
      · rw [if_neg h2]; show ts.length < ts.length + 1; omega
theorem pBodies_in : ∀ (f : Nat) (b : Bd) (ts : List Tok), 9 * ts.length + 1 ≤ f → (pBodies f b ts).In (ts.length + 1)
  | 0, _, _, h => by omega
  | f + 1, b, ts, h => by
    rw [pBodies]
    by_cases h1 : txt ts = [111, 110]
    · rw [if_pos h1]
      have := tail_lt h1 (by decide)
      have h2 : ts.tail.tail.length ≤ ts.tail.length := by simp
      split
      · exact (pBlock_in (by omega)).bind fun l t ht => (pBodies_in f _ t (by omega)).mono (by omega)
      · exact trivial
    · rw [if_neg h1]; show ts.length < ts.length + 1; omega
theorem pProg_in (ts : List Tok) : (pProg (bigF ts) ts).In 1 := by
  unfold pProg bigF
  refine (pDecls_in _ [] ts (by omega)).bind fun vs t ht => (pBodies_in _ bd0 t (by omega)).bind fun b t2 ht2 => ?_
  split
  · exact Nat.zero_lt_one
  · exact trivial
theorem Res.In.ne {α : Type} {n : Nat} {r : Res α} (h : r.In n) : r ≠ .out := fun e => by rw [e] at h; exact h
end Go.Proofs.YtgblgkkbggdopaaDoor

/-
  How a parser of package syntax and the expressions and statements that it makes lie in memory, and what stays of them. No conditions.
-/
namespace Go.Proofs.YtgblgkkbggdopaaDoor
open Go.RowKit

/-- Below the heap's end nothing but block R may have been written. -/
structure Keep (R : Nat) (w w' : World) : Prop where
  os : w'.os = w.os
  tape : w'.tape = w.tape
  output : w'.output = w.output
  size : w.heap.size ≤ w'.heap.size
  block : ∀ k, k < w.heap.size → k ≠ R → w'.heap[k]? = w.heap[k]?

theorem Keep.refl (R : Nat) (w : World) : Keep R w w := ⟨rfl, rfl, rfl, Nat.le_refl _, fun _ _ _ => rfl⟩
theorem Keep.trans {R : Nat} {a b c : World} (h : Keep R a b) (k : Keep R b c) : Keep R a c :=
  ⟨k.os.trans h.os, k.tape.trans h.tape, k.output.trans h.output, Nat.le_trans h.size k.size, fun i hi hne => (k.block i (Nat.lt_of_lt_of_le hi h.size) hne).trans (h.block i hi hne)⟩
theorem Keep.of_below {R : Nat} {w w' : World} (h : Below w.heap.size w w') : Keep R w w' := ⟨h.os, h.tape, h.output, h.size, fun k hk _ => h.block k hk⟩
theorem Keep.below {R B : Nat} {w w' : World} (h : Keep R w w') (hB : B ≤ w.heap.size) (hR : B ≤ R) : Below B w w' :=
  ⟨h.os, h.tape, h.output, h.size, fun k hk => h.block k (by omega) (by omega)⟩
theorem Keep.alloc {R : Nat} {a w : World} (h : Keep R a w) (o : Obj) : Keep R a (w.alloc o) := h.trans (Keep.of_below ((Below.refl _ _).alloc (Nat.le_refl _) _))
theorem Keep.drew {R : Nat} {a w : World} (h : Keep R a w) : Keep R a w.drew := h.trans (Keep.of_below (Below.refl _ _).drew)
theorem Keep.drewN {R : Nat} {a w : World} (h : Keep R a w) (n : Nat) : Keep R a (w.drewN n) := h.trans (Keep.of_below (below_drewN (Below.refl _ _) n))
theorem Keep.setNew {R : Nat} {a w : World} (h : Keep R a w) {p : Addr} (hp : a.heap.size ≤ p.block) (u : Value) : Keep R a (w.setCell p u) :=
  ⟨h.os, h.tape, h.output, Nat.le_trans h.size (by simp [World.setCell]), fun k hk hne => (Below.heap_setCell _ _ _ _ (by omega)).trans (h.block k hk hne)⟩
theorem Keep.setR {R : Nat} {a w : World} (h : Keep R a w) {p : Addr} (hp : p.block = R) (u : Value) : Keep R a (w.setCell p u) :=
  ⟨h.os, h.tape, h.output, Nat.le_trans h.size (by simp [World.setCell]), fun k hk hne => (Below.heap_setCell _ _ _ _ (by omega)).trans (h.block k hk hne)⟩
theorem Keep.cell {R : Nat} {w w' : World} (h : Keep R w w') {b o : Nat} {v : Value} (hc : w.cell? ⟨b, o, none⟩ = some v) (hne : b ≠ R) : w'.cell? ⟨b, o, none⟩ = some v :=
  (World.cell?_of_block (w := w) (a := ⟨b, o, none⟩) (h.block b (World.block_lt_of_cell? w _ hc) hne)).trans hc
theorem Keep.frozen {R : Nat} {w w' : World} (h : Keep R w w') {b o : Nat} {q : Bool} (hc : w.frozen? ⟨b, o, none⟩ = q) (hb : b < w.heap.size) (hne : b ≠ R) : w'.frozen? ⟨b, o, none⟩ = q :=
  (World.frozen?_of_block (w := w) (a := ⟨b, o, none⟩) (h.block b hb hne)).trans hc

/-- Cells that lie one behind the other. -/
def CellsAt (w : World) (b o : Nat) (cs : List Value) : Prop := ∀ j u, cs[j]? = some u → w.cell? ⟨b, o + j, none⟩ = some u

theorem CellsAt.lt {w : World} {b o : Nat} {v : Value} {cs : List Value} (h : CellsAt w b o (v :: cs)) : b < w.heap.size :=
  World.block_lt_of_cell? w _ (h 0 v rfl)
theorem CellsAt.of_block {w w' : World} {b o : Nat} {cs : List Value} (h : CellsAt w b o cs) (hb : w'.heap[b]? = w.heap[b]?) : CellsAt w' b o cs :=
  fun j u hj => (World.cell?_of_block (w := w) (a := ⟨b, o + j, none⟩) hb).trans (h j u hj)

/-- The six cells of an expression. -/
def exCells (op value : Int) (name : List UInt8) (slot size : Int) (args : Value) : List Value :=
  [.int .i64 op, .int .i64 value, .string (strB name), .int .i64 slot, .int .i64 size, args]
/-- The eighteen cells of a statement. -/
def stCells (kind : Int) (name : List UInt8) (slot size : Int) (place value : List Value) (body els : Value) : List Value :=
  [.int .i64 kind, .string (strB name), .int .i64 slot, .int .i64 size] ++ (place ++ (value ++ [body, els]))

mutual
/-- Cells read as an expression, whose lists lie in blocks that meet S. -/
def ExL (S : Nat → Prop) (w : World) : Ex → List Value → Prop
  | .mk op value name slot size args, cs => ∃ A c, cs = exCells op value name slot size (.slice A args.length c) ∧ args.length ≤ c ∧ (args ≠ [] → ∃ b o, A = some ⟨b, o, none⟩ ∧ S b ∧ ExRow S w args b o)
def ExRow (S : Nat → Prop) (w : World) : List Ex → Nat → Nat → Prop
  | [], _, _ => True
  | e :: r, b, o => (∃ cs, CellsAt w b o cs ∧ ExL S w e cs) ∧ ExRow S w r b (o + 6)
end
mutual
/-- Cells read as a statement. -/
def StL (S : Nat → Prop) (w : World) : St → List Value → Prop
  | .mk kind name slot size place value body els, cs => ∃ cp cv A c A' c', cs = stCells kind name slot size cp cv (.slice A body.length c) (.slice A' els.length c') ∧ ExL S w place cp ∧ ExL S w value cv ∧
      body.length ≤ c ∧ els.length ≤ c' ∧ (body ≠ [] → ∃ b o, A = some ⟨b, o, none⟩ ∧ S b ∧ StRow S w body b o) ∧ (els ≠ [] → ∃ b o, A' = some ⟨b, o, none⟩ ∧ S b ∧ StRow S w els b o)
def StRow (S : Nat → Prop) (w : World) : List St → Nat → Nat → Prop
  | [], _, _ => True
  | s :: r, b, o => (∃ cs, CellsAt w b o cs ∧ StL S w s cs) ∧ StRow S w r b (o + 18)
end

/-- What meets S and was there lies as it did, and meets S'. -/
def Still (S S' : Nat → Prop) (w w' : World) : Prop := ∀ b, S b → b < w.heap.size → S' b ∧ w'.heap[b]? = w.heap[b]?

theorem ExL.cons {S : Nat → Prop} {w : World} {e : Ex} {cs : List Value} (h : ExL S w e cs) : ∃ v r, cs = v :: r := by
  cases e
  simp only [ExL] at h
  obtain ⟨A, c, rfl, _⟩ := h
  exact ⟨_, _, rfl⟩
theorem StL.cons {S : Nat → Prop} {w : World} {e : St} {cs : List Value} (h : StL S w e cs) : ∃ v r, cs = v :: r := by
  cases e
  simp only [StL] at h
  obtain ⟨_, _, _, _, _, _, rfl, _⟩ := h
  exact ⟨_, _, rfl⟩

mutual
theorem ExL.still {S S' : Nat → Prop} {w w' : World} (hs : Still S S' w w') : ∀ (e : Ex) (cs : List Value), ExL S w e cs → ExL S' w' e cs
  | .mk op value name slot size args, cs => by
    intro h
    simp only [ExL] at h ⊢
    obtain ⟨A, c, h1, h2, h3⟩ := h
    refine ⟨A, c, h1, h2, fun hne => ?_⟩
    obtain ⟨b, o, hA, hS, hr⟩ := h3 hne
    have hb : b < w.heap.size := by
      cases args with
      | nil => exact absurd rfl hne
      | cons e r =>
        simp only [ExRow] at hr
        obtain ⟨⟨cs', hc, hl⟩, _⟩ := hr
        obtain ⟨v, r', rfl⟩ := hl.cons
        exact hc.lt
    exact ⟨b, o, hA, (hs b hS hb).1, ExRow.still hs args b o hS hr⟩
theorem ExRow.still {S S' : Nat → Prop} {w w' : World} (hs : Still S S' w w') : ∀ (l : List Ex) (b o : Nat), S b → ExRow S w l b o → ExRow S' w' l b o
  | [], _, _ => by intro _ _; simp only [ExRow]
  | e :: r, b, o => by
    intro hS h
    simp only [ExRow] at h ⊢
    obtain ⟨⟨cs, hc, hl⟩, hr⟩ := h
    have hb : b < w.heap.size := by
      obtain ⟨v, r', rfl⟩ := hl.cons
      exact hc.lt
    exact ⟨⟨cs, hc.of_block (hs b hS hb).2, ExL.still hs e cs hl⟩, ExRow.still hs r b (o + 6) hS hr⟩
end
mutual
theorem StL.still {S S' : Nat → Prop} {w w' : World} (hs : Still S S' w w') : ∀ (e : St) (cs : List Value), StL S w e cs → StL S' w' e cs
  | .mk kind name slot size place value body els, cs => by
    intro h
    simp only [StL] at h ⊢
    obtain ⟨cp, cv, A, c, A', c', h1, h2, h3, h4, h5, h6, h7⟩ := h
    refine ⟨cp, cv, A, c, A', c', h1, ExL.still hs place cp h2, ExL.still hs value cv h3, h4, h5, fun hne => ?_, fun hne => ?_⟩
    · obtain ⟨b, o, hA, hS, hr⟩ := h6 hne
      have hb : b < w.heap.size := by
        cases body with
        | nil => exact absurd rfl hne
        | cons e r =>
          simp only [StRow] at hr
          obtain ⟨⟨cs', hc, hl⟩, _⟩ := hr
          obtain ⟨v, r', rfl⟩ := hl.cons
          exact hc.lt
      exact ⟨b, o, hA, (hs b hS hb).1, StRow.still hs body b o hS hr⟩
    · obtain ⟨b, o, hA, hS, hr⟩ := h7 hne
      have hb : b < w.heap.size := by
        cases els with
        | nil => exact absurd rfl hne
        | cons e r =>
          simp only [StRow] at hr
          obtain ⟨⟨cs', hc, hl⟩, _⟩ := hr
          obtain ⟨v, r', rfl⟩ := hl.cons
          exact hc.lt
      exact ⟨b, o, hA, (hs b hS hb).1, StRow.still hs els b o hS hr⟩
theorem StRow.still {S S' : Nat → Prop} {w w' : World} (hs : Still S S' w w') : ∀ (l : List St) (b o : Nat), S b → StRow S w l b o → StRow S' w' l b o
  | [], _, _ => by intro _ _; simp only [StRow]
  | e :: r, b, o => by
    intro hS h
    simp only [StRow] at h ⊢
    obtain ⟨⟨cs, hc, hl⟩, hr⟩ := h
    have hb : b < w.heap.size := by
      obtain ⟨v, r', rfl⟩ := hl.cons
      exact hc.lt
    exact ⟨⟨cs, hc.of_block (hs b hS hb).2, StL.still hs e cs hl⟩, StRow.still hs r b (o + 18) hS hr⟩
end

/-- From n on. -/
def From (n : Nat) : Nat → Prop := fun b => n ≤ b

theorem Still.keep {R n : Nat} {w w' : World} (h : Keep R w w') (hR : R < n) : Still (From n) (From n) w w' :=
  fun b hS hb => ⟨hS, h.block b hb (by have : n ≤ b := hS; omega)⟩
theorem Still.low {n m : Nat} {w : World} (h : m ≤ n) : Still (From n) (From m) w w := fun _ hS _ => ⟨Nat.le_trans h hS, rfl⟩

/-- A list of statements that a slice reads as. -/
def StSlice (S : Nat → Prop) (w : World) (l : List St) (v : Value) : Prop :=
  ∃ A c, v = .slice A l.length c ∧ l.length ≤ c ∧ (l ≠ [] → ∃ b o, A = some ⟨b, o, none⟩ ∧ S b ∧ StRow S w l b o)
/-- The three cells of a declaration. -/
def vrCells (v : Vr) : List Value := [.string (strB v.name), .int .i64 v.size, .int .i64 v.init]
/-- A list of declarations that a slice reads as. -/
def VrSlice (S : Nat → Prop) (w : World) (l : List Vr) (v : Value) : Prop :=
  ∃ A c, v = .slice A l.length c ∧ l.length ≤ c ∧ (l ≠ [] → ∃ b o, A = some ⟨b, o, none⟩ ∧ S b ∧ CellsAt w b o (l.flatMap vrCells))

/-- The cells of the table of symbols. -/
def symArr : Array Value := (symTab.flatMap fun x => [.string (strB x.1), .int .i64 x.2.1, .int .i64 x.2.2]).toArray

/-- What an expression that was made from block n on reads as. -/
def VEx (n : Nat) (w : World) (e : Ex) (v : Value) : Prop :=
  ∃ (a b : Int) (s : ByteArray) (c d : Int) (A : Option Addr) (l q : Nat), v = .agg #[.int .i64 a, .int .i64 b, .string s, .int .i64 c, .int .i64 d, .slice A l q] ∧ ExL (From n) w e [.int .i64 a, .int .i64 b, .string s, .int .i64 c, .int .i64 d, .slice A l q]
def VSt (n : Nat) (w : World) (s : St) (v : Value) : Prop := ∃ cs, v = .agg cs.toArray ∧ StL (From n) w s cs
def VSts (n : Nat) (w : World) (l : List St) (v : Value) : Prop := StSlice (From n) w l v
def VVr (_ : World) (d : Vr) (v : Value) : Prop := v = .agg (vrCells d).toArray
def VStr (_ : World) (s : List UInt8) (v : Value) : Prop := v = .string (strB s)
def VInt (_ : World) (n : Int) (v : Value) : Prop := v = .int .i64 n
def VUnit (_ : World) (_ : Unit) (v : Value) : Prop := v = .tuple #[]

end Go.Proofs.YtgblgkkbggdopaaDoor

/-
  What nameSize and numberSize of package token return: how many bytes of a word, of a number, a text begins with. Conditions: the text has at most 2^63 - 1 bytes.
-/
namespace Go.Proofs.YtgblgkkbggdopaaDoor
open Go.RowKit

theorem hid_false {b : Bool} (h : ¬ b = true) : Hid (b = false) := Bool.eq_false_iff.2 h
theorem ret_int {k : IntKind} {a b : Int} (h : a = b) : Ending.returned (.int k a) = .returned (.int k b) := by rw [h]
theorem drop_get (s : ByteArray) (k : Nat) (h : k < s.size) : s.data.toList.drop k = s[k] :: s.data.toList.drop (k + 1) := by
  rw [List.drop_eq_getElem_cons (by simpa using h)]; rfl

theorem list_cons (s : ByteArray) (h0 : 0 < s.size) : s.data.toList = s[0] :: s.data.toList.drop 1 := by
  have := drop_get s 0 h0
  rwa [List.drop_zero] at this

end Go.Proofs.YtgblgkkbggdopaaDoor

/-
  What Reserved and Valid of package token return. Conditions: the text has at most 2^47 bytes.
-/
namespace Go.Proofs.YtgblgkkbggdopaaDoor
open Go.RowKit

theorem toList_ne {s : ByteArray} (h : 0 < s.size) : s.toList.isEmpty = false := by
  rw [Lib.toList_data, list_cons s h]; rfl
theorem toList_nil {s : ByteArray} (h : s.size = 0) : s.toList = [] := by
  rw [Lib.toList_data]
  apply List.length_eq_zero_iff.1
  simpa using h

/-! ### The document's answer -/
end Go.Proofs.YtgblgkkbggdopaaDoor

/-
  Frames that many walks share: blocks of one struct, what becomes of all else when they are written, and what a program reads as. No conditions.
-/
namespace Go.Proofs.YtgblgkkbggdopaaDoor
open Go.RowKit

theorem str_ne {l : List UInt8} {s : ByteArray} (h : l ≠ s.data.toList) : ((strB l).toList == s.toList) = false := by
  rw [Lib.toList_data, Lib.toList_data]; simpa [strB] using h
theorem str_eq {l : List UInt8} {s : ByteArray} (h : l = s.data.toList) : ((strB l).toList == s.toList) = true := by
  rw [Lib.toList_data, Lib.toList_data]; simpa [strB] using h

theorem str_size (l : List UInt8) : (strB l).size = l.length := by simp [strB, ByteArray.size]
theorem str_data (l : List UInt8) : (strB l).data.toList = l := by simp [strB]

theorem new_cell (w : World) (cs : Array Value) (T : TypeId) (j : Nat) (v : Value) (h : cs[j]? = some v) : (w.alloc (.cells cs T)).cell? ⟨w.heap.size, j, none⟩ = some v := by
  rw [Lib.cell_of_heap (Go.MapKept.heap_alloc w (.cells cs T)).1]; simpa using h

theorem Keep.blk {R b : Nat} {w w' : World} {o : Obj} (h : Keep R w w') (hb : w.heap[b]? = some o) (hne : b ≠ R) : w'.heap[b]? = some o := (h.block b (lt_of_block hb) hne).trans hb
theorem below_blk {b : Nat} {w w' : World} {o : Obj} (h : Below w.heap.size w w') (hb : w.heap[b]? = some o) : w'.heap[b]? = some o := (h.block b (lt_of_block hb)).trans hb
theorem new_blk (w : World) (o : Obj) : (w.alloc o).heap[w.heap.size]? = some o := (Go.MapKept.heap_alloc w o).1
theorem new_size (w : World) (o : Obj) : (w.alloc o).heap.size = w.heap.size + 1 := by simp
theorem alloc_blk (w : World) (o : Obj) {k : Nat} (h : k < w.heap.size) : (w.alloc o).heap[k]? = w.heap[k]? := Below.heap_alloc w o k h

theorem box6 {w : World} {n : Nat} {a0 a1 a2 a3 a4 a5 : Value} {T : TypeId} (h : w.heap[n]? = some (.cells #[a0, a1, a2, a3, a4, a5] T (0, 0))) :
    w.cell? ⟨n, 0, none⟩ = some a0 ∧ w.cell? ⟨n, 1, none⟩ = some a1 ∧ w.cell? ⟨n, 2, none⟩ = some a2 ∧ w.cell? ⟨n, 3, none⟩ = some a3 ∧ w.cell? ⟨n, 4, none⟩ = some a4 ∧ w.cell? ⟨n, 5, none⟩ = some a5 ∧
    w.frozen? ⟨n, 0, none⟩ = false ∧ w.frozen? ⟨n, 1, none⟩ = false ∧ w.frozen? ⟨n, 2, none⟩ = false ∧ w.frozen? ⟨n, 3, none⟩ = false ∧ w.frozen? ⟨n, 4, none⟩ = false ∧ w.frozen? ⟨n, 5, none⟩ = false ∧ n < w.heap.size :=
  ⟨by rw [Lib.cell_of_heap h]; rfl, by rw [Lib.cell_of_heap h]; rfl, by rw [Lib.cell_of_heap h]; rfl, by rw [Lib.cell_of_heap h]; rfl, by rw [Lib.cell_of_heap h]; rfl, by rw [Lib.cell_of_heap h]; rfl,
   Lib.frozen_of_heap h 0, Lib.frozen_of_heap h 1, Lib.frozen_of_heap h 2, Lib.frozen_of_heap h 3, Lib.frozen_of_heap h 4, Lib.frozen_of_heap h 5, lt_of_block h⟩

theorem set_size (w : World) (p : Addr) (v : Value) : (w.setCell p v).heap.size = w.heap.size := by simp [World.setCell]
/-- A cell of a block has been written. -/
theorem blk_set {w : World} {b : Nat} {cs : Array Value} {T : TypeId} {fr : Nat × Nat} (h : w.heap[b]? = some (.cells cs T fr)) (i : Nat) (v : Value) : (w.setCell ⟨b, i, none⟩ v).heap[b]? = some (.cells (cs.setIfInBounds i v) T fr) := by
  have hlt := lt_of_block h
  have h' : w.heap[b] = .cells cs T fr := by simpa [Array.getElem?_eq_getElem hlt] using h
  show (w.heap.modify b _)[b]? = _
  rw [Array.getElem?_eq_getElem (by simpa using hlt), Array.getElem_modify_self, h']
  rfl

/-- Six cells of a block have been written. -/
def set6 (w : World) (n : Nat) (a0 a1 a2 a3 a4 a5 : Value) : World :=
  (((((w.setCell ⟨n, 0, none⟩ a0).setCell ⟨n, 1, none⟩ a1).setCell ⟨n, 2, none⟩ a2).setCell ⟨n, 3, none⟩ a3).setCell ⟨n, 4, none⟩ a4).setCell ⟨n, 5, none⟩ a5
theorem set6_blk (w : World) (n : Nat) (a0 a1 a2 a3 a4 a5 : Value) {k : Nat} (h : k ≠ n) : (set6 w n a0 a1 a2 a3 a4 a5).heap[k]? = w.heap[k]? := by
  unfold set6
  iterate 6 rw [Below.heap_setCell _ _ _ _ h]
theorem set6_size (w : World) (n : Nat) (a0 a1 a2 a3 a4 a5 : Value) : (set6 w n a0 a1 a2 a3 a4 a5).heap.size = w.heap.size := by
  simp [set6, World.setCell]
theorem set6_alloc (w : World) (o : Obj) (n : Nat) (a0 a1 a2 a3 a4 a5 : Value) (h : n < w.heap.size) : set6 (w.alloc o) n a0 a1 a2 a3 a4 a5 = (set6 w n a0 a1 a2 a3 a4 a5).alloc o := by
  unfold set6
  rw [World.setCell_alloc_past _ _ _ _ h]
  iterate 5 rw [World.setCell_alloc_past _ _ _ _ (by simpa [World.setCell] using h)]
theorem Keep.set6 {R n : Nat} {a w : World} (h : Keep R a w) (hn : a.heap.size ≤ n) (a0 a1 a2 a3 a4 a5 : Value) : Keep R a (set6 w n a0 a1 a2 a3 a4 a5) :=
  (((((h.setNew (p := ⟨n, 0, none⟩) hn a0).setNew (p := ⟨n, 1, none⟩) hn a1).setNew (p := ⟨n, 2, none⟩) hn a2).setNew (p := ⟨n, 3, none⟩) hn a3).setNew (p := ⟨n, 4, none⟩) hn a4).setNew (p := ⟨n, 5, none⟩) hn a5
theorem ExL.set6 {n m : Nat} {w : World} {e : Ex} {cs : List Value} (h : ExL (From n) w e cs) (hm : m ≤ n) {k : Nat} (hk : k < n) (a0 a1 a2 a3 a4 a5 : Value) : ExL (From m) (set6 w k a0 a1 a2 a3 a4 a5) e cs :=
  ExL.still (fun b (hb : n ≤ b) _ => ⟨Nat.le_trans hm hb, set6_blk w k a0 a1 a2 a3 a4 a5 (by omega)⟩) e cs h
theorem ExL.alloc {n m : Nat} {w : World} {e : Ex} {cs : List Value} (h : ExL (From n) w e cs) (hm : m ≤ n) (o : Obj) : ExL (From m) (w.alloc o) e cs :=
  ExL.still (fun _ hb hlt => ⟨Nat.le_trans hm hb, alloc_blk w o hlt⟩) e cs h
theorem ExL.keep {R n m : Nat} {w w' : World} {e : Ex} {cs : List Value} (h : ExL (From n) w e cs) (hm : m ≤ n) (hk : Keep R w w') (hR : R < n) : ExL (From m) w' e cs :=
  ExL.still (fun b (hb : n ≤ b) hlt => ⟨Nat.le_trans hm hb, hk.block b hlt (by omega)⟩) e cs h

theorem ExL.setCell {n m : Nat} {w : World} {e : Ex} {cs : List Value} (h : ExL (From n) w e cs) (hm : m ≤ n) {p : Addr} (hp : p.block < n) (v : Value) : ExL (From m) (w.setCell p v) e cs :=
  ExL.still (fun b (hb : n ≤ b) _ => ⟨Nat.le_trans hm hb, Below.heap_setCell w p v b (by omega)⟩) e cs h

theorem new_cells (w : World) (cs : List Value) (T : TypeId) : CellsAt (w.alloc (.cells cs.toArray T)) w.heap.size 0 cs := fun j u hj => by
  rw [Nat.zero_add]; exact new_cell w cs.toArray T j u (by simpa using hj)
theorem row1 {n m : Nat} {w : World} {e : Ex} {cs : List Value} (h : ExL (From n) w e cs) (hm : m ≤ n) (T : TypeId) : ExRow (From m) (w.alloc (.cells cs.toArray T)) [e] w.heap.size 0 := by
  simp only [ExRow, and_true]
  exact ⟨cs, new_cells w cs T, h.alloc hm _⟩
theorem row2 {n m : Nat} {w : World} {e e' : Ex} {c0 c1 c2 c3 c4 c5 : Value} {cs' : List Value} (h : ExL (From n) w e [c0, c1, c2, c3, c4, c5]) (h' : ExL (From n) w e' cs') (hm : m ≤ n) (T : TypeId) : ExRow (From m) (w.alloc (.cells ([c0, c1, c2, c3, c4, c5] ++ cs').toArray T)) [e, e'] w.heap.size 0 := by
  simp only [ExRow, and_true]
  have hn := new_cells w ([c0, c1, c2, c3, c4, c5] ++ cs') T
  refine ⟨⟨_, fun j u hj => hn j u ?_, h.alloc hm _⟩, ⟨cs', fun j u hj => ?_, h'.alloc hm _⟩⟩
  · rw [List.getElem?_append_left (List.getElem?_eq_some_iff.1 hj).1]; exact hj
  · have := hn (6 + j) u (by rw [List.getElem?_append_right (by simp)]; simpa using hj)
    rw [Nat.zero_add] at this ⊢
    exact this

/-- The block of a result that has not been written yet. -/
abbrev exZ : Obj := .cells #[.int .i64 0, .int .i64 0, .string ⟨#[]⟩, .int .i64 0, .int .i64 0, .slice none 0 0] 92


theorem setRow_blk (w : World) (n : Nat) (cs : Array Value) {k : Nat} (h : k ≠ n) : (w.setRow n cs).heap[k]? = w.heap[k]? := by
  unfold World.setRow
  simp only [Array.getElem?_modify]
  rw [if_neg (fun e => h e.symm)]
theorem Keep.setRow {R n : Nat} {a w : World} (h : Keep R a w) (hn : a.heap.size ≤ n) (cs : Array Value) : Keep R a (w.setRow n cs) :=
  ⟨h.os, h.tape, h.output, Nat.le_trans h.size (by simp), fun k hk hne => (setRow_blk w n cs (by omega)).trans (h.block k hk hne)⟩
theorem StL.setRow {n m : Nat} {w : World} {s : St} {cs : List Value} (h : StL (From n) w s cs) (hm : m ≤ n) {k : Nat} (hk : k < n) (c : Array Value) : StL (From m) (w.setRow k c) s cs :=
  StL.still (fun b (hb : n ≤ b) _ => ⟨Nat.le_trans hm hb, setRow_blk w k c (by omega)⟩) s cs h

theorem ExL.shape {S : Nat → Prop} {w : World} {e : Ex} {cs : List Value} (h : ExL S w e cs) : cs.length = 6 ∧ ∀ v ∈ cs, v.oneCell' = true := by
  cases e
  simp only [ExL] at h
  obtain ⟨A, c, rfl, _⟩ := h
  exact ⟨rfl, by simp [exCells, Value.oneCell']⟩
theorem StL.shape {S : Nat → Prop} {w : World} {s : St} {cs : List Value} (h : StL S w s cs) : cs.length = 18 ∧ ∀ v ∈ cs, v.oneCell' = true := by
  cases s
  simp only [StL] at h
  obtain ⟨cp, cv, A, c, A', c', rfl, h1, h2, _⟩ := h
  have s1 := h1.shape
  have s2 := h2.shape
  refine ⟨by simp [stCells, s1.1, s2.1], fun v hv => ?_⟩
  simp only [stCells, List.mem_append, List.mem_cons, List.not_mem_nil, or_false] at hv
  rcases hv with (rfl | rfl | rfl | rfl) | hv | hv | rfl | rfl
  · rfl
  · rfl
  · rfl
  · rfl
  · exact s1.2 v hv
  · exact s2.2 v hv
  · rfl
  · rfl
theorem StL.one {S : Nat → Prop} {w : World} {s : St} {cs : List Value} (h : StL S w s cs) : cs.toArray.all (·.oneCell') = true := by
  have := h.shape.2
  simpa using this
theorem StL.size18 {S : Nat → Prop} {w : World} {s : St} {cs : List Value} (h : StL S w s cs) : 18 = cs.toArray.size := by simp [h.shape.1]
theorem infoSt : (Tryd.prog.info? 94).map (·.size) = some 18 := by kernel_rfl
theorem StL.info {S : Nat → Prop} {w : World} {s : St} {cs : List Value} (h : StL S w s cs) : (Tryd.prog.info? 94).map (·.size) = some cs.toArray.size := by
  rw [infoSt]; simp [h.shape.1]

/-- The block of a statement that has not been written yet. -/
abbrev stZ : Obj := .cells #[.int .i64 0, .string ⟨#[]⟩, .int .i64 0, .int .i64 0, .int .i64 0, .int .i64 0, .string ⟨#[]⟩, .int .i64 0, .int .i64 0, .slice none 0 0, .int .i64 0, .int .i64 0, .string ⟨#[]⟩, .int .i64 0, .int .i64 0, .slice none 0 0, .slice none 0 0, .slice none 0 0] 94

theorem setRow_same {w : World} {n : Nat} {old cs : Array Value} {t : TypeId} {fr : Nat × Nat} (h : w.heap[n]? = some (.cells old t fr)) : (w.setRow n cs).heap[n]? = some (.cells cs t fr) := setRow_heap w n old cs t fr h

/-- The zero expression. -/
theorem ex0_at (S : Nat → Prop) (w : World) : ExL S w ex0 [.int .i64 0, .int .i64 0, .string ⟨#[]⟩, .int .i64 0, .int .i64 0, .slice none 0 0] := by
  simp only [ex0, ExL]
  exact ⟨none, 0, rfl, Nat.le_refl _, fun h => absurd rfl h⟩
theorem StSlice.still {S S' : Nat → Prop} {w w' : World} {l : List St} {v : Value} (h : StSlice S w l v) (hs : Still S S' w w') : StSlice S' w' l v := by
  obtain ⟨A, c, rfl, hc, hr⟩ := h
  refine ⟨A, c, rfl, hc, fun hne => ?_⟩
  obtain ⟨b, o, hA, hS, hrow⟩ := hr hne
  have hb : b < w.heap.size := by
    cases l with
    | nil => exact absurd rfl hne
    | cons e r =>
      simp only [StRow] at hrow
      obtain ⟨⟨cs', hc', hl⟩, _⟩ := hrow
      obtain ⟨v, r', rfl⟩ := hl.cons
      exact hc'.lt
  exact ⟨b, o, hA, (hs b hS hb).1, StRow.still hs l b o hS hrow⟩
/-- A statement out of its parts. -/
theorem st_mk {S : Nat → Prop} {w : World} {kind : Int} {name : List UInt8} {place value : Ex} {body els : List St} {cp cv : List Value} {A A' : Option Addr} {n n' c c' : Nat} (hp : ExL S w place cp) (hv : ExL S w value cv) (hb : StSlice S w body (.slice A n c)) (he : StSlice S w els (.slice A' n' c')) :
    StL S w (.mk kind name 0 0 place value body els) (stCells kind name 0 0 cp cv (.slice A n c) (.slice A' n' c')) := by
  obtain ⟨_, _, e1, h1, h2⟩ := hb
  obtain ⟨_, _, e2, h3, h4⟩ := he
  injection e1 with e1 e1' e1''
  injection e2 with e2 e2' e2''
  subst e1 e1' e1'' e2 e2' e2''
  simp only [StL]
  exact ⟨cp, cv, A, c, A', c', rfl, hp, hv, h1, h3, h2, h4⟩
theorem sts_nil (S : Nat → Prop) (w : World) : StSlice S w [] (.slice none 0 0) := ⟨none, 0, rfl, Nat.le_refl _, fun h => absurd rfl h⟩


/-- What a program reads as, whose lists lie in blocks that meet S. -/
def PrAt (S : Nat → Prop) (w : World) (p : Pr) (c0 c1 c2 c3 c4 : Value) : Prop := VrSlice S w p.vars c0 ∧ StSlice S w p.start c1 ∧ StSlice S w p.message c2 ∧ StSlice S w p.tick c3 ∧ StSlice S w p.input c4
def VPr (n : Nat) (w : World) (p : Pr) (v : Value) : Prop :=
  ∃ (A0 A1 A2 A3 A4 : Option Addr) (l0 q0 l1 q1 l2 q2 l3 q3 l4 q4 : Nat), v = .agg #[.slice A0 l0 q0, .slice A1 l1 q1, .slice A2 l2 q2, .slice A3 l3 q3, .slice A4 l4 q4] ∧ PrAt (From n) w p (.slice A0 l0 q0) (.slice A1 l1 q1) (.slice A2 l2 q2) (.slice A3 l3 q3) (.slice A4 l4 q4)

theorem VrSlice.still {S S' : Nat → Prop} {w w' : World} {l : List Vr} {v : Value} (h : VrSlice S w l v) (hs : Still S S' w w') : VrSlice S' w' l v := by
  obtain ⟨A, c, rfl, hc, hr⟩ := h
  refine ⟨A, c, rfl, hc, fun hne => ?_⟩
  obtain ⟨b, o, hA, hS, hrow⟩ := hr hne
  have hb : b < w.heap.size := by
    cases l with
    | nil => exact absurd rfl hne
    | cons e r => exact CellsAt.lt (v := .string (strB e.name)) (cs := [.int .i64 e.size, .int .i64 e.init] ++ r.flatMap vrCells) hrow
  exact ⟨b, o, hA, (hs b hS hb).1, hrow.of_block (hs b hS hb).2⟩
theorem PrAt.still {S S' : Nat → Prop} {w w' : World} {p : Pr} {c0 c1 c2 c3 c4 : Value} (h : PrAt S w p c0 c1 c2 c3 c4) (hs : Still S S' w w') : PrAt S' w' p c0 c1 c2 c3 c4 :=
  ⟨h.1.still hs, h.2.1.still hs, h.2.2.1.still hs, h.2.2.2.1.still hs, h.2.2.2.2.still hs⟩

abbrev prZ : Obj := .cells #[.slice none 0 0, .slice none 0 0, .slice none 0 0, .slice none 0 0, .slice none 0 0] 74
theorem box5 {w : World} {n : Nat} {a0 a1 a2 a3 a4 : Value} {T : TypeId} (h : w.heap[n]? = some (.cells #[a0, a1, a2, a3, a4] T (0, 0))) :
    w.cell? ⟨n, 0, none⟩ = some a0 ∧ w.cell? ⟨n, 1, none⟩ = some a1 ∧ w.cell? ⟨n, 2, none⟩ = some a2 ∧ w.cell? ⟨n, 3, none⟩ = some a3 ∧ w.cell? ⟨n, 4, none⟩ = some a4 ∧
    w.frozen? ⟨n, 0, none⟩ = false ∧ w.frozen? ⟨n, 1, none⟩ = false ∧ w.frozen? ⟨n, 2, none⟩ = false ∧ w.frozen? ⟨n, 3, none⟩ = false ∧ w.frozen? ⟨n, 4, none⟩ = false ∧ n < w.heap.size :=
  ⟨by rw [Lib.cell_of_heap h]; rfl, by rw [Lib.cell_of_heap h]; rfl, by rw [Lib.cell_of_heap h]; rfl, by rw [Lib.cell_of_heap h]; rfl, by rw [Lib.cell_of_heap h]; rfl,
   Lib.frozen_of_heap h 0, Lib.frozen_of_heap h 1, Lib.frozen_of_heap h 2, Lib.frozen_of_heap h 3, Lib.frozen_of_heap h 4, lt_of_block h⟩
def set5 (w : World) (n : Nat) (a0 a1 a2 a3 a4 : Value) : World :=
  ((((w.setCell ⟨n, 0, none⟩ a0).setCell ⟨n, 1, none⟩ a1).setCell ⟨n, 2, none⟩ a2).setCell ⟨n, 3, none⟩ a3).setCell ⟨n, 4, none⟩ a4
theorem set5_blk (w : World) (n : Nat) (a0 a1 a2 a3 a4 : Value) {k : Nat} (h : k ≠ n) : (set5 w n a0 a1 a2 a3 a4).heap[k]? = w.heap[k]? := by
  unfold set5
  iterate 5 rw [Below.heap_setCell _ _ _ _ h]
theorem Keep.set5 {R n : Nat} {a w : World} (h : Keep R a w) (hn : a.heap.size ≤ n) (a0 a1 a2 a3 a4 : Value) : Keep R a (set5 w n a0 a1 a2 a3 a4) :=
  ((((h.setNew (p := ⟨n, 0, none⟩) hn a0).setNew (p := ⟨n, 1, none⟩) hn a1).setNew (p := ⟨n, 2, none⟩) hn a2).setNew (p := ⟨n, 3, none⟩) hn a3).setNew (p := ⟨n, 4, none⟩) hn a4


theorem set5_below {B n : Nat} {a w : World} (h : Below B a w) (hn : B ≤ n) (a0 a1 a2 a3 a4 : Value) : Below B a (set5 w n a0 a1 a2 a3 a4) :=
  ((((h.setCell (p := ⟨n, 0, none⟩) hn a0).setCell (p := ⟨n, 1, none⟩) hn a1).setCell (p := ⟨n, 2, none⟩) hn a2).setCell (p := ⟨n, 3, none⟩) hn a3).setCell (p := ⟨n, 4, none⟩) hn a4
theorem set5_size (w : World) (n : Nat) (a0 a1 a2 a3 a4 : Value) : (set5 w n a0 a1 a2 a3 a4).heap.size = w.heap.size := by simp [set5, World.setCell]

def hWord : Nat → List UInt8
  | 0 => [115, 116, 97, 114, 116]
  | 1 => [109, 101, 115, 115, 97, 103, 101]
  | 2 => [116, 105, 99, 107]
  | _ => [105, 110, 112, 117, 116]
end Go.Proofs.YtgblgkkbggdopaaDoor

/-
  What rollbacknetmake.New, Left and Next do: a list of choices, and the next one of them. Conditions: the list of bytes is one that the call was given.
-/
namespace Go.Proofs.YtgblgkkbggdopaaDoor
open Go.RowKit Go.ChangeShapes Go.WideShapes Go.ChangeAt

/-- A list of bytes that lies below B. -/
def BytesIn (B : Nat) (w : World) (v : Value) : Prop :=
  ∃ A n c, v = .slice A n c ∧ n ≤ c ∧ c ≤ 9223372036854775807 ∧ (0 < n → ∃ b o, A = some ⟨b, o, none⟩ ∧ b < B ∧ ∀ i, i < n → ∃ u : Nat, w.cell? ⟨b, o + i, none⟩ = some (.int .u8 u) ∧ u ≤ 255)

/-- The list of choices at block cb: k of n are used up. -/
structure CodesSt (B : Nat) (w : World) (cb : Nat) (A : Option Addr) (n c k : Nat) : Prop where
  c0 : w.cell? ⟨cb, 0, none⟩ = some (.slice A n c)
  c1 : w.cell? ⟨cb, 1, none⟩ = some (.int .i64 k)
  fz : w.frozen? ⟨cb, 1, none⟩ = false
  hk : k ≤ n
  hc : n ≤ c
  hm : c ≤ 9223372036854775807
  hB : B ≤ cb
  hl : 0 < n → ∃ b o, A = some ⟨b, o, none⟩ ∧ b < B ∧ ∀ i, i < n → ∃ u : Nat, w.cell? ⟨b, o + i, none⟩ = some (.int .u8 u) ∧ u ≤ 255

def CodesIn (B : Nat) (w : World) (cb : Nat) : Prop := ∃ A n c k, CodesSt B w cb A n c k

/-- All but one block is as it was. -/
structure Apart (cb : Nat) (w w' : World) : Prop where
  size : w.heap.size ≤ w'.heap.size
  cell : ∀ p : Addr, p.block ≠ cb → p.block < w.heap.size → w'.cell? p = w.cell? p

theorem CodesSt.lt {B cb n c k : Nat} {A : Option Addr} {w : World} (h : CodesSt B w cb A n c k) : cb < w.heap.size := World.block_lt_of_cell? w _ h.c0

theorem CodesSt.below {B cb n c k : Nat} {A : Option Addr} {w w' : World} (h : CodesSt B w cb A n c k) (hb : Below w.heap.size w w') : CodesSt B w' cb A n c k := by
  refine ⟨(hb.cell (p := ⟨cb, _, none⟩) h.lt).trans h.c0, (hb.cell (p := ⟨cb, _, none⟩) h.lt).trans h.c1, (hb.frozen (p := ⟨cb, _, none⟩) h.lt).trans h.fz, h.hk, h.hc, h.hm, h.hB, fun h0 => ?_⟩
  obtain ⟨b, o, hA, hlt, hi⟩ := h.hl h0
  refine ⟨b, o, hA, hlt, fun i hin => ?_⟩
  obtain ⟨u, hu, hu2⟩ := hi i hin
  exact ⟨u, (hb.cell (p := ⟨b, _, none⟩) (Nat.lt_trans (Nat.lt_of_lt_of_le hlt h.hB) h.lt)).trans hu, hu2⟩

theorem CodesIn.below {B cb : Nat} {w w' : World} (h : CodesIn B w cb) (hb : Below w.heap.size w w') : CodesIn B w' cb := by
  obtain ⟨A, n, c, k, h⟩ := h
  exact ⟨A, n, c, k, h.below hb⟩

theorem BytesIn.below {B : Nat} {w w' : World} {v : Value} (h : BytesIn B w v) (hb : Below B w w') : BytesIn B w' v := by
  obtain ⟨A, n, c, rfl, h1, h2, h3⟩ := h
  refine ⟨A, n, c, rfl, h1, h2, fun h0 => ?_⟩
  obtain ⟨b, o, hA, hlt, hi⟩ := h3 h0
  refine ⟨b, o, hA, hlt, fun i hin => ?_⟩
  obtain ⟨u, hu, hu2⟩ := hi i hin
  exact ⟨u, (hb.cell (p := ⟨b, _, none⟩) hlt).trans hu, hu2⟩

section
variable {H : Type} {enc : TypeId × Value → H}
theorem cells8 : Tryd.prog.cellsOf 5 = 1 := by kernel_rfl
set_option maxRecDepth 100000 in
/-- What a slice of bytes that came in gives. -/
theorem open_bytes {W : World} {base : Nat} {v1 : Value} {d1 : DataW H} {p1 : List MemPlace} (hval : Value.okWide Tryd.prog W .any base 22 v1) (h1 : DataW.Trod enc Tryd.prog W 0 (fun _ => true) true 22 v1 d1 p1) :
    BytesIn W.heap.size W v1 := by
  obtain ⟨A, len, cap, rfl⟩ := okWide_slice Tryd.underlying22 hval
  obtain ⟨fuel, hf⟩ := h1
  rcases open_ints Tryd.underlying22 Tryd.underlying5 cells8 hf with ⟨hcs, hx⟩ | ⟨a, len', cap', zs, hcs, _, hl, hm, hz, hx, hcell, hwz⟩
  · simp [Value.cells] at hcs
    obtain ⟨rfl, rfl, rfl⟩ := hcs
    exact ⟨none, 0, 0, rfl, Nat.le_refl _, by omega, fun h => absurd h (by omega)⟩
  · simp [Value.cells] at hcs
    obtain ⟨rfl, rfl, rfl⟩ := hcs
    simp only [if_true] at hz
    unfold maxLen at hm
    refine ⟨some a, len, cap, rfl, hl, by omega, fun h0 => ?_⟩
    obtain ⟨ab, ao, spot⟩ := a
    have hspot : spot = none := by simpa [Addr.add] using World.cell?_spot (hcell 0 (by omega))
    subst hspot
    refine ⟨ab, ao, rfl, World.block_lt_of_cell? W _ (by have := hcell 0 (by omega); rw [Addr.add_lit] at this; exact this), fun i hin => ?_⟩
    have hci := hcell i (by omega)
    rw [Addr.add_lit] at hci
    have hb := range_u8 hwz i
    rw [← List.getD_eq_getElem?_getD] at hb
    exact ⟨(zs.getD i 0).toNat, by rw [hci, Int.toNat_of_nonneg hb.1], by omega⟩
end

theorem codes_alloc {B : Nat} {w : World} {A : Option Addr} {n c : Nat} (hc : n ≤ c) (hm : c ≤ 9223372036854775807) (hB : B ≤ w.heap.size)
    (hl : 0 < n → ∃ b o, A = some ⟨b, o, none⟩ ∧ b < B ∧ ∀ i, i < n → ∃ u : Nat, w.cell? ⟨b, o + i, none⟩ = some (.int .u8 u) ∧ u ≤ 255) :
    CodesSt B (w.alloc (.cells #[.slice A n c, .int .i64 0] 68)) w.heap.size A n c 0 := by
  have hh := (Go.MapKept.heap_alloc w (.cells #[.slice A n c, .int .i64 0] 68)).1
  refine ⟨by rw [Lib.cell_of_heap hh]; rfl, by rw [Lib.cell_of_heap hh]; rfl, Lib.frozen_of_heap hh 1, Nat.zero_le _, hc, hm, hB, fun h0 => ?_⟩
  obtain ⟨b, o, hA, hlt, hi⟩ := hl h0
  refine ⟨b, o, hA, hlt, fun i hin => ?_⟩
  obtain ⟨u, hu, hu2⟩ := hi i hin
  exact ⟨u, (((Below.refl w.heap.size w).alloc (Nat.le_refl _) _).cell (p := ⟨b, _, none⟩) (by show b < _; omega)).trans hu, hu2⟩

set_option maxHeartbeats 400000 in
set_option maxRecDepth 100000 in
theorem new_any (B : Nat) (v : Value) (most : Nat) (w : World) (h : BytesIn B w v) (hB : B ≤ w.heap.size) (hm : most ≤ 100000) :
    Calls Tryd.prog 9 #[v, .int .i64 most] w fun e w' => ∃ cb A n c, e = .returned (.pointer (some ⟨cb, 0, none⟩)) ∧ n ≤ most ∧ CodesSt B w' cb A n c 0 ∧ w.heap.size ≤ cb ∧ Below w.heap.size w w' := by
  obtain ⟨A, n, c, rfl, hn, hc, hl⟩ := h
  have HL := Lib.hid hl
  clear hl
  by_cases h1 : most < n
  · obtain ⟨b, o, rfl, hlt, hi⟩ := HL.out (by omega)
    have HI := Lib.hid hi
    clear hi
    go_enter Tryd.func9, Tryd.ntmps9
    go_wp2
    go_ret
    exact ⟨w.heap.size, _, most, c, rfl, Nat.le_refl _, codes_alloc (by omega) hc hB (fun _ => ⟨b, o, rfl, hlt, fun i hi => HI.out i (by omega)⟩), Nat.le_refl _, (Below.refl _ _).alloc (Nat.le_refl _) _⟩
  · go_enter Tryd.func9, Tryd.ntmps9
    go_wp2
    go_ret
    exact ⟨w.heap.size, A, n, c, rfl, by omega, codes_alloc hn hc hB HL.out, Nat.le_refl _, (Below.refl _ _).alloc (Nat.le_refl _) _⟩

theorem CodesSt.step {B cb n c k : Nat} {A : Option Addr} {w : World} (h : CodesSt B w cb A n c k) (hk : k < n) : CodesSt B (w.setCell ⟨cb, 1, none⟩ (.int .i64 ((k : Int) + 1))) cb A n c (k + 1) := by
  refine ⟨?_, ?_, ?_, hk, h.hc, h.hm, h.hB, fun h0 => ?_⟩
  · rw [World.cell?_setCell_other _ _ _ _ (by intro e; injection e with _ e _; omega)]; exact h.c0
  · rw [World.cell?_setCell_same _ _ _ h.c1, Int.natCast_add]; rfl
  · rw [World.frozen?_setCell]; exact h.fz
  · obtain ⟨b, o, hA, hlt, hi⟩ := h.hl h0
    refine ⟨b, o, hA, hlt, fun i hin => ?_⟩
    obtain ⟨u, hu, hu2⟩ := hi i hin
    exact ⟨u, by rw [World.cell?_setCell_other _ _ _ _ (by intro e; injection e with e _ _; have := h.hB; omega)]; exact hu, hu2⟩

theorem Apart.set {cb : Nat} (w : World) (j : Nat) (v : Value) : Apart cb w (w.setCell ⟨cb, j, none⟩ v) :=
  ⟨((Below.refl 0 w).setCell (p := ⟨cb, j, none⟩) (Nat.zero_le _) v).size, fun p hp _ => World.cell?_setCell_other _ _ _ _ (by intro e; exact hp (by rw [← e]))⟩
theorem Apart.below {cb : Nat} {w w' : World} (hb : Below w.heap.size w w') : Apart cb w w' := ⟨hb.size, fun _ _ h => hb.cell h⟩
theorem Apart.trans {cb : Nat} {w w' w'' : World} (h : Apart cb w w') (h' : Apart cb w' w'') : Apart cb w w'' :=
  ⟨Nat.le_trans h.size h'.size, fun p hp hlt => (h'.cell p hp (Nat.lt_of_lt_of_le hlt h.size)).trans (h.cell p hp hlt)⟩

set_option maxHeartbeats 400000 in
set_option maxRecDepth 100000 in
theorem left_any (B cb : Nat) (A : Option Addr) (n c k : Nat) (w : World) (h : CodesSt B w cb A n c k) :
    Calls Tryd.prog 48 #[.pointer (some ⟨cb, 0, none⟩)] w fun e w' => e = .returned (.bool (decide (k < n))) ∧ ∃ m, w' = w.drewN m := by
  obtain ⟨c0, c1, _, hk, hc, hm, _, _⟩ := h
  obtain ⟨q, hq⟩ : ∃ q, decide (k < n) = q := ⟨_, rfl⟩
  have hq' : decide ((k : Int) < (n : Int)) = q := by rw [← hq]; exact decide_eq_decide.2 (by omega)
  rw [hq]
  go_enter Tryd.func48, Tryd.ntmps48
  go_wp2_with fail
  go_quiet (fail)
  go_wp2
  go_ret
  exact ⟨rfl, _, rfl⟩

set_option maxHeartbeats 1000000 in
set_option maxRecDepth 100000 in
theorem next_st (B cb m : Nat) (A : Option Addr) (n c k : Nat) (w : World) (h : CodesSt B w cb A n c k) (hm0 : 0 < m) (hm2 : m ≤ 100000) :
    Calls Tryd.prog 24 #[.pointer (some ⟨cb, 0, none⟩), .int .i64 m] w fun e w' => ∃ j k' : Nat, j < m ∧ e = .returned (.int .i64 j) ∧ (k' = k + 1 ∨ k' = k ∧ j = 0) ∧ CodesSt B w' cb A n c k' ∧ Below B w w' ∧ Apart cb w w' := by
  have H := Lib.hid h
  have hB := h.hB
  have hBw : B ≤ w.heap.size := Nat.le_of_lt (Nat.lt_of_le_of_lt h.hB h.lt)
  by_cases hk : k < n
  · have q : decide (k < n) = true := decide_eq_true hk
    go_enter Tryd.func24, Tryd.ntmps24
    go_wp2_with fail
    refine (left_any B cb A n c k _ H.out).mono ?_
    rintro e w1 ⟨rfl, m1, hw1⟩
    have hb1 : Below w.heap.size w w1 := by rw [hw1]; exact below_drewN (Below.refl _ _) m1
    have H1 := Lib.hid (H.out.below hb1)
    have HB1 := Lib.hid hb1
    clear hw1 hb1
    obtain ⟨c0, c1, fz, _, hc, hm, _, hl⟩ := H1.out
    clear hl
    have hn : n ≤ 9223372036854775807 := by omega
    go_upto_region 4 with fail
    obtain ⟨w2, hw2⟩ : ∃ w2, w1.setCell ⟨cb, 1, none⟩ (.int .i64 ((k : Int) + 1)) = w2 := ⟨_, rfl⟩
    have H2 := Lib.hid (hw2 ▸ H1.out.step hk)
    have HB2 := Lib.hid (show Below B w w2 by rw [← hw2]; exact ((HB1.out).mono hBw).setCell (p := ⟨cb, 1, none⟩) hB _)
    have HA2 := Lib.hid (show Apart cb w w2 by rw [← hw2]; exact (Apart.below HB1.out).trans (Apart.set _ _ _))
    simp only [hw2]
    clear hw2 c0 c1 fz
    obtain ⟨c0, c1, _, _, _, _, _, hl⟩ := H2.out
    obtain ⟨b, o, rfl, hlt, hi⟩ := hl (by omega)
    obtain ⟨u, hu, hu2⟩ := hi k hk
    clear hl hi
    have hsub : (((k + 1 : Nat) : Int)) - 1 = (k : Int) := by omega
    go_quiet (fail)
    go_wp2
    go_ret
    exact ⟨u % m, k + 1, Nat.mod_lt _ hm0, by rw [Int.natCast_emod]; rfl, .inl rfl, H2.out.below (below_drewN (Below.refl _ _) nq), below_drewN HB2.out nq, HA2.out.trans (Apart.below (below_drewN (Below.refl _ _) nq))⟩
  · have q : decide (k < n) = false := decide_eq_false hk
    go_enter Tryd.func24, Tryd.ntmps24
    go_wp2_with fail
    refine (left_any B cb A n c k _ H.out).mono ?_
    rintro e w1 ⟨rfl, m1, rfl⟩
    go_wp2
    go_ret
    exact ⟨0, k, by omega, rfl, .inr ⟨rfl, rfl⟩, H.out.below (below_drewN (Below.refl _ _) m1), below_drewN (Below.refl _ _) m1, Apart.below (below_drewN (Below.refl _ _) m1)⟩
theorem next_any (B cb m : Nat) (w : World) (h : CodesIn B w cb) (hm0 : 0 < m) (hm2 : m ≤ 100000) :
    Calls Tryd.prog 24 #[.pointer (some ⟨cb, 0, none⟩), .int .i64 m] w fun e w' => ∃ k : Nat, k < m ∧ e = .returned (.int .i64 k) ∧ CodesIn B w' cb ∧ Below B w w' ∧ Apart cb w w' := by
  obtain ⟨A, n, c, k, h⟩ := h
  exact (next_st B cb m A n c k w h hm0 hm2).mono fun e w' ⟨j, k', h1, h2, _, h3, h4, h5⟩ => ⟨j, h1, h2, ⟨A, n, c, k', h3⟩, h4, h5⟩
end Go.Proofs.YtgblgkkbggdopaaDoor
