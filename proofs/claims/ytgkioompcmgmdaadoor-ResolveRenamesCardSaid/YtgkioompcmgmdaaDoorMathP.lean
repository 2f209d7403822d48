/-
  Plain mathematics of chapter 2, syntax: programs, and the program of a list of tokens. Parsing is a function of a bound on its depth; a bound that is great enough never shows. No conditions.
-/
import Derived.Test.YtgkioompcmgmdaaDoorMathR
namespace Go.Proofs.YtgkioompcmgmdaaDoor

/-- An expression. -/
inductive Ex where
  | mk (op value : Int) (name : List UInt8) (slot size : Int) (args : List Ex)
/-- A statement. -/
inductive St where
  | mk (kind : Int) (name : List UInt8) (slot size : Int) (place value : Ex) (body els : List St)
/-- A declaration. -/
structure Vr where
  name : List UInt8
  size : Int
  init : Int
/-- A program. -/
structure Pr where
  vars : List Vr
  start : List St
  message : List St
  tick : List St
  input : List St

def ex0 : Ex := .mk 0 0 [] 0 0 []
def pr0 : Pr := ⟨[], [], [], [], []⟩

/-- What parsing gives: a thing and the tokens behind it, the tokens from the one on that does not fit, or no answer as the bound is too small. -/
inductive Res (α : Type) where
  | ok (a : α) (ts : List Tok)
  | fail (ts : List Tok)
  | out

def Res.bind {α β : Type} : Res α → (α → List Tok → Res β) → Res β
  | .ok a ts, f => f a ts
  | .fail ts, _ => .fail ts
  | .out, _ => .out

def txt : List Tok → List UInt8
  | [] => []
  | t :: _ => t.text
def knd : List Tok → Int
  | [] => 0
  | t :: _ => t.kind
def vlu : List Tok → Int
  | [] => 0
  | t :: _ => t.value
def posOf (e : Nat) : List Tok → Nat
  | [] => e
  | t :: _ => t.off

/-- What the tokens of a text are: words, numbers and signs. -/
def TokOK (t : Tok) : Prop :=
  t.text.length ≤ 4096 ∧ 0 ≤ t.value ∧ t.value < 9223372036854775808 ∧
  ((t.kind = 1 ∧ ∃ c r, t.text = c :: r ∧ letterC c.toNat = true) ∨ (t.kind = 2 ∧ t.text = []) ∨ (t.kind = 3 ∧ ∃ c r, t.text = c :: r ∧ letterC c.toNat = false))

/-- The signs and words that make expressions: text, operator, level. -/
def symTab : List (List UInt8 × Int × Int) :=
  [([124, 124], 22, 0), ([38, 38], 21, 1), ([61, 61], 19, 2), ([33, 61], 20, 2), ([60], 15, 2), ([60, 61], 16, 2), ([62], 17, 2), ([62, 61], 18, 2),
   ([43], 10, 3), ([45], 11, 3), ([42], 12, 4), ([47], 13, 4), ([37], 14, 4), ([45], 8, 5), ([33], 9, 5),
   ([115, 101, 108, 102], 4, 6), ([112, 114, 111, 99, 115], 5, 6), ([102, 114, 111, 109], 6, 6), ([118, 97, 108, 117, 101], 7, 6)]

/-- The operator of a sign at a level, 0 if it has none. -/
def symIn : List (List UInt8 × Int × Int) → Int → List UInt8 → Int
  | [], _, _ => 0
  | (s, op, l) :: r, n, x => if l = n ∧ x = s then op else symIn r n x
def symS (n : Int) (ts : List Tok) : Int := symIn symTab n (txt ts)

def expectS (s : List UInt8) (ts : List Tok) : Res Unit := if txt ts = s then .ok () ts.tail else .fail ts
def nameS (ts : List Tok) : Res (List UInt8) := if knd ts = 1 ∧ validS (txt ts) = true then .ok (txt ts) ts.tail else .fail ts
def numS (least : Int) (ts : List Tok) : Res Int := if knd ts = 2 ∧ least ≤ vlu ts then .ok (vlu ts) ts.tail else .fail ts

mutual
/-- Operands of a level with the operators between them. -/
def pBin : Nat → Nat → List Tok → Res Ex
  | 0, _, _ => .out
  | f + 1, n, ts => if n = 5 then pUn f ts else (pBin f (n + 1) ts).bind fun e t => pLoop f n e t
def pLoop : Nat → Nat → Ex → List Tok → Res Ex
  | 0, _, _, _ => .out
  | f + 1, n, e, ts => if symS n ts = 0 then .ok e ts else (pBin f (n + 1) ts.tail).bind fun e2 t => pLoop f n (.mk (symS n ts) 0 [] 0 0 [e, e2]) t
def pUn : Nat → List Tok → Res Ex
  | 0, _ => .out
  | f + 1, ts => if symS 5 ts = 0 then pPrim f ts else (pUn f ts.tail).bind fun e t => .ok (.mk (symS 5 ts) 0 [] 0 0 [e]) t
def pPrim : Nat → List Tok → Res Ex
  | 0, _ => .out
  | f + 1, ts =>
    if symS 6 ts ≠ 0 then .ok (.mk (symS 6 ts) 0 [] 0 0 []) ts.tail
    else if txt ts = [40] then (pBin f 0 ts.tail).bind fun e t => (expectS [41] t).bind fun _ t => .ok e t
    else if knd ts = 2 then (numS 0 ts).bind fun v t => .ok (.mk 1 v [] 0 0 []) t
    else (nameS ts).bind fun nm t =>
      if txt t = [91] then (pBin f 0 t.tail).bind fun e t => (expectS [93] t).bind fun _ t => .ok (.mk 3 0 nm 0 0 [e]) t
      else .ok (.mk 2 0 nm 0 0 []) t
end

mutual
def pBlock : Nat → List Tok → Res (List St)
  | 0, _ => .out
  | f + 1, ts => (expectS [123] ts).bind fun _ t => pStmts f [] t
def pStmts : Nat → List St → List Tok → Res (List St)
  | 0, _, _ => .out
  | f + 1, acc, ts => if txt ts = [125] then .ok acc ts.tail else (pStmt f ts).bind fun s t => pStmts f (acc ++ [s]) t
def pStmt : Nat → List Tok → Res St
  | 0, _ => .out
  | f + 1, ts =>
    if txt ts = [105, 102] then (pBin f 0 ts.tail).bind fun c t => (pBlock f t).bind fun b t =>
      if txt t = [101, 108, 115, 101] then (pBlock f t.tail).bind fun e t => .ok (.mk 3 [] 0 0 ex0 c b e) t
      else .ok (.mk 3 [] 0 0 ex0 c b []) t
    else if txt ts = [119, 104, 105, 108, 101] then (pBin f 0 ts.tail).bind fun c t => (pBlock f t).bind fun b t => .ok (.mk 4 [] 0 0 ex0 c b []) t
    else if txt ts = [115, 101, 110, 100] then (pBin f 0 ts.tail).bind fun p t => (expectS [44] t).bind fun _ t => (pBin f 0 t).bind fun v t => (expectS [59] t).bind fun _ t => .ok (.mk 5 [] 0 0 p v [] []) t
    else if txt ts = [111, 117, 116, 112, 117, 116] then (pBin f 0 ts.tail).bind fun v t => (expectS [59] t).bind fun _ t => .ok (.mk 6 [] 0 0 ex0 v [] []) t
    else (nameS ts).bind fun nm t =>
      if txt t = [91] then (pBin f 0 t.tail).bind fun p t => (expectS [93] t).bind fun _ t => (expectS [61] t).bind fun _ t => (pBin f 0 t).bind fun v t => (expectS [59] t).bind fun _ t => .ok (.mk 2 nm 0 0 p v [] []) t
      else (expectS [61] t).bind fun _ t => (pBin f 0 t).bind fun v t => (expectS [59] t).bind fun _ t => .ok (.mk 1 nm 0 0 ex0 v [] []) t
end

/-- What follows the word var. -/
def pVar (ts : List Tok) : Res Vr := (nameS ts).bind fun nm t =>
  if txt t = [61] then
    if txt t.tail = [45] then (numS 0 t.tail.tail).bind fun v t => (expectS [59] t).bind fun _ t => .ok ⟨nm, 0, -v⟩ t
    else (numS 0 t.tail).bind fun v t => (expectS [59] t).bind fun _ t => .ok ⟨nm, 0, v⟩ t
  else (expectS [59] t).bind fun _ t => .ok ⟨nm, 0, 0⟩ t
/-- What follows the word array. -/
def pArr (ts : List Tok) : Res Vr := (nameS ts).bind fun nm t => (expectS [91] t).bind fun _ t => (numS 1 t).bind fun v t => (expectS [93] t).bind fun _ t => (expectS [59] t).bind fun _ t => .ok ⟨nm, v, 0⟩ t
def pDecls : Nat → List Vr → List Tok → Res (List Vr)
  | 0, _, _ => .out
  | f + 1, acc, ts =>
    if txt ts = [118, 97, 114] then (pVar ts.tail).bind fun v t => pDecls f (acc ++ [v]) t
    else if txt ts = [97, 114, 114, 97, 121] then (pArr ts.tail).bind fun v t => pDecls f (acc ++ [v]) t
    else .ok acc ts

/-- The bodies of the handlers that there were so far. -/
structure Bd where
  start : Option (List St)
  message : Option (List St)
  tick : Option (List St)
  input : Option (List St)
def bd0 : Bd := ⟨none, none, none, none⟩
def Bd.get (b : Bd) (w : List UInt8) : Option (Option (List St)) :=
  if w = [115, 116, 97, 114, 116] then some b.start
  else if w = [109, 101, 115, 115, 97, 103, 101] then some b.message
  else if w = [116, 105, 99, 107] then some b.tick
  else if w = [105, 110, 112, 117, 116] then some b.input
  else none
def Bd.set (b : Bd) (w : List UInt8) (l : List St) : Bd :=
  if w = [115, 116, 97, 114, 116] then { b with start := some l }
  else if w = [109, 101, 115, 115, 97, 103, 101] then { b with message := some l }
  else if w = [116, 105, 99, 107] then { b with tick := some l }
  else { b with input := some l }
def pBodies : Nat → Bd → List Tok → Res Bd
  | 0, _, _ => .out
  | f + 1, b, ts =>
    if txt ts = [111, 110] then
      match b.get (txt ts.tail) with
      | some none => (pBlock f ts.tail.tail).bind fun l t => pBodies f (b.set (txt ts.tail) l) t
      | _ => .fail ts.tail
    else .ok b ts
def pProg (f : Nat) (ts : List Tok) : Res Pr :=
  (pDecls f [] ts).bind fun vs t => (pBodies f bd0 t).bind fun b t =>
    if t = [] then .ok ⟨vs, b.start.getD [], b.message.getD [], b.tick.getD [], b.input.getD []⟩ [] else .fail t

mutual
def Ex.deep : Ex → Nat
  | .mk _ _ _ _ _ args => Ex.deepL args + 1
def Ex.deepL : List Ex → Nat
  | [] => 0
  | e :: r => max e.deep (Ex.deepL r)
end
mutual
def St.deep : St → Nat
  | .mk _ _ _ _ p v b e => 1 + max (max p.deep v.deep) (max (St.deepL b) (St.deepL e))
def St.deepL : List St → Nat
  | [] => 0
  | s :: r => max s.deep (St.deepL r)
end
def Pr.deep (p : Pr) : Nat := max (max (St.deepL p.start) (St.deepL p.message)) (max (St.deepL p.tick) (St.deepL p.input))

/-- A bound that is always great enough. -/
def bigF (ts : List Tok) : Nat := 9 * ts.length + 10

/-- P2.2: what Parse gives: a program, 0 and 0, or the zero program, a place and an error. -/
def parseS (l : List UInt8) : Pr × Nat × Int :=
  if (scanS l).err = 0 then
    match pProg (bigF (scanS l).toks) (scanS l).toks with
    | .ok p _ => if 16 < p.deep then (pr0, 0, 6) else (p, 0, 0)
    | .fail t => (pr0, posOf l.length t, 1)
    | .out => (pr0, 0, 0)
  else (pr0, (scanS l).off, (scanS l).err)

/-- The result is none of those that a bound that is too small gives, and its rest has fewer than n tokens if it is one. -/
def Res.In {α : Type} (n : Nat) : Res α → Prop
  | .ok _ t => t.length < n
  | .fail _ => True
  | .out => False

theorem Res.In.bind {α β : Type} {n m : Nat} {r : Res α} {f : α → List Tok → Res β} (h : r.In n) (hf : ∀ a t, t.length < n → (f a t).In m) : (r.bind f).In m := by
  cases r with
  | ok a t => exact hf a t h
  | fail t => exact trivial
  | out => exact h.elim
theorem Res.In.mono {α : Type} {n m : Nat} {r : Res α} (h : r.In n) (hm : n ≤ m) : r.In m := by
  cases r with
  | ok a t => exact Nat.lt_of_lt_of_le h hm
  | fail t => exact trivial
  | out => exact h.elim

theorem tail_lt {ts : List Tok} {s : List UInt8} (h : txt ts = s) (hs : s ≠ []) : ts.tail.length < ts.length := by
  cases ts with
  | nil => exact absurd h.symm hs
  | cons t r => simp
theorem knd_lt {ts : List Tok} (h : knd ts ≠ 0) : ts.tail.length < ts.length := by
  cases ts with
  | nil => exact absurd rfl h
  | cons t r => simp
theorem expectS_in (s : List UInt8) (hs : s ≠ []) (ts : List Tok) : (expectS s ts).In ts.length := by
  unfold expectS
  split
  · exact tail_lt ‹_› hs
  · exact trivial
theorem nameS_in (ts : List Tok) : (nameS ts).In ts.length := by
  unfold nameS
  split
  · rename_i h; exact knd_lt (by rw [h.1]; decide)
  · exact trivial
theorem numS_in (n : Int) (ts : List Tok) : (numS n ts).In ts.length := by
  unfold numS
  split
  · rename_i h; exact knd_lt (by rw [h.1]; decide)
  · exact trivial
theorem symIn_nil : ∀ (l : List (List UInt8 × Int × Int)) (n : Int), (∀ x ∈ l, x.1 ≠ []) → symIn l n [] = 0
  | [], _, _ => rfl
  | (s, op, k) :: r, n, h => by
    rw [symIn, if_neg (fun hh => h (s, op, k) (by simp) hh.2.symm)]
    exact symIn_nil r n fun x hx => h x (by simp [hx])
theorem symS_lt {n : Int} {ts : List Tok} (h : symS n ts ≠ 0) : ts.tail.length < ts.length := by
  cases ts with
  | nil => exact absurd (symIn_nil symTab n (by decide)) h
  | cons t r => simp

theorem pE_in : ∀ f : Nat,
    (∀ n ts, n ≤ 5 → 9 * ts.length + 8 - n ≤ f → (pBin f n ts).In ts.length) ∧
    (∀ n e ts, n ≤ 4 → 9 * ts.length + 1 ≤ f → (pLoop f n e ts).In (ts.length + 1)) ∧
    (∀ ts, 9 * ts.length + 2 ≤ f → (pUn f ts).In ts.length) ∧
    (∀ ts, 9 * ts.length + 1 ≤ f → (pPrim f ts).In ts.length)
  | 0 => ⟨fun n ts h1 h => by omega, fun n e ts _ h => by omega, fun ts h => by omega, fun ts h => by omega⟩
  | f + 1 => by
    obtain ⟨hB, hL, hU, hP⟩ := pE_in f
    refine ⟨fun n ts h1 h => ?_, fun n e ts h1 h => ?_, fun ts h => ?_, fun ts h => ?_⟩
    · rw [pBin]
      by_cases h5 : n = 5
      · rw [if_pos h5]; exact hU ts (by omega)
      · rw [if_neg h5]
        exact (hB (n + 1) ts (by omega) (by omega)).bind fun e t ht => (hL n e t (by omega) (by omega)).mono (by omega)
    · rw [pLoop]
      by_cases h0 : symS n ts = 0
      · rw [if_pos h0]; show ts.length < ts.length + 1; omega
      · rw [if_neg h0]
        have := symS_lt h0
        exact (hB (n + 1) ts.tail (by omega) (by omega)).bind fun e2 t ht => (hL n _ t h1 (by omega)).mono (by omega)
    · rw [pUn]
      by_cases h0 : symS 5 ts = 0
      · rw [if_pos h0]; exact hP ts (by omega)
      · rw [if_neg h0]
        have := symS_lt h0
        exact (hU ts.tail (by omega)).bind fun e t ht => by show t.length < _; omega
    · rw [pPrim]
      by_cases h0 : symS 6 ts ≠ 0
      · rw [if_pos h0]; exact symS_lt h0
      · rw [if_neg h0]
        by_cases h1 : txt ts = [40]
        · rw [if_pos h1]
          have := tail_lt h1 (by decide)
          exact (hB 0 ts.tail (by omega) (by omega)).bind fun e t ht => (expectS_in _ (by decide) t).bind fun _ t' ht' => by show t'.length < _; omega
        · rw [if_neg h1]
          by_cases h2 : knd ts = 2
          · rw [if_pos h2]; exact (numS_in 0 ts).bind fun v t ht => ht
          · rw [if_neg h2]
            refine (nameS_in ts).bind fun nm t ht => ?_
            by_cases h3 : txt t = [91]
            · rw [if_pos h3]
              have := tail_lt h3 (by decide)
              exact (hB 0 t.tail (by omega) (by omega)).bind fun e t' ht' => (expectS_in _ (by decide) t').bind fun _ t2 ht2 => by show t2.length < _; omega
            · rw [if_neg h3]; exact ht

theorem pBin_in {f n : Nat} {ts : List Tok} (hn : n ≤ 5) (h : 9 * ts.length + 8 ≤ f) : (pBin f n ts).In ts.length := (pE_in f).1 n ts hn (by omega)

theorem pS_in : ∀ f : Nat,
    (∀ ts, 9 * ts.length + 1 ≤ f → (pBlock f ts).In ts.length) ∧
    (∀ acc ts, 9 * ts.length + 3 ≤ f → (pStmts f acc ts).In (ts.length + 1)) ∧
    (∀ ts, 9 * ts.length + 2 ≤ f → (pStmt f ts).In ts.length)
  | 0 => ⟨fun ts h => by omega, fun acc ts h => by omega, fun ts h => by omega⟩
  | f + 1 => by
    obtain ⟨hB, hL, hS⟩ := pS_in f
    refine ⟨fun ts h => ?_, fun acc ts h => ?_, fun ts h => ?_⟩
    · rw [pBlock]
      exact (expectS_in _ (by decide) ts).bind fun _ t ht => (hL [] t (by omega)).mono (by omega)
    · rw [pStmts]
      by_cases h0 : txt ts = [125]
      · rw [if_pos h0]; have := tail_lt h0 (by decide); show ts.tail.length < _; omega
      · rw [if_neg h0]
        exact (hS ts (by omega)).bind fun s t ht => (hL _ t (by omega)).mono (by omega)
    · rw [pStmt]
      by_cases h1 : txt ts = [105, 102]
      · rw [if_pos h1]
        have := tail_lt h1 (by decide)
        refine (pBin_in (by decide) (by omega)).bind fun c t ht => (hB t (by omega)).bind fun b t2 ht2 => ?_
        by_cases h2 : txt t2 = [101, 108, 115, 101]
        · rw [if_pos h2]
          have := tail_lt h2 (by decide)
          exact (hB t2.tail (by omega)).bind fun e t3 ht3 => by show t3.length < _; omega
        · rw [if_neg h2]; show t2.length < _; omega
      · rw [if_neg h1]
        by_cases h2 : txt ts = [119, 104, 105, 108, 101]
        · rw [if_pos h2]
          have := tail_lt h2 (by decide)
          exact (pBin_in (by decide) (by omega)).bind fun c t ht => (hB t (by omega)).bind fun b t2 ht2 => by show t2.length < _; omega
        · rw [if_neg h2]
          by_cases h3 : txt ts = [115, 101, 110, 100]
          · rw [if_pos h3]
            have := tail_lt h3 (by decide)
            exact (pBin_in (by decide) (by omega)).bind fun p t ht => (expectS_in _ (by decide) t).bind fun _ t2 ht2 => (pBin_in (by decide) (by omega)).bind fun v t3 ht3 => (expectS_in _ (by decide) t3).bind fun _ t4 ht4 => by show t4.length < _; omega
          · rw [if_neg h3]
            by_cases h4 : txt ts = [111, 117, 116, 112, 117, 116]
            · rw [if_pos h4]
              have := tail_lt h4 (by decide)
              exact (pBin_in (by decide) (by omega)).bind fun v t3 ht3 => (expectS_in _ (by decide) t3).bind fun _ t4 ht4 => by show t4.length < _; omega
            · rw [if_neg h4]
              refine (nameS_in ts).bind fun nm t ht => ?_
              by_cases h5 : txt t = [91]
              · rw [if_pos h5]
                have := tail_lt h5 (by decide)
                exact (pBin_in (by decide) (by omega)).bind fun p t1 ht1 => (expectS_in _ (by decide) t1).bind fun _ t2 ht2 => (expectS_in _ (by decide) t2).bind fun _ t3 ht3 => (pBin_in (by decide) (by omega)).bind fun v t4 ht4 => (expectS_in _ (by decide) t4).bind fun _ t5 ht5 => by show t5.length < _; omega
              · rw [if_neg h5]
                exact (expectS_in _ (by decide) t).bind fun _ t3 ht3 => (pBin_in (by decide) (by omega)).bind fun v t4 ht4 => (expectS_in _ (by decide) t4).bind fun _ t5 ht5 => by show t5.length < _; omega

theorem pBlock_in {f : Nat} {ts : List Tok} (h : 9 * ts.length + 1 ≤ f) : (pBlock f ts).In ts.length := (pS_in f).1 ts h

theorem pVar_in (ts : List Tok) : (pVar ts).In ts.length := by
  refine (nameS_in ts).bind fun nm t ht => ?_
  by_cases h1 : txt t = [61]
  · rw [if_pos h1]
    have := tail_lt h1 (by decide)
    by_cases h2 : txt t.tail = [45]
    · rw [if_pos h2]
      have := tail_lt h2 (by decide)
      exact (numS_in 0 _).bind fun v t2 ht2 => (expectS_in _ (by decide) t2).bind fun _ t3 ht3 => by show t3.length < _; omega
    · rw [if_neg h2]
      exact (numS_in 0 _).bind fun v t2 ht2 => (expectS_in _ (by decide) t2).bind fun _ t3 ht3 => by show t3.length < _; omega
  · rw [if_neg h1]
    exact (expectS_in _ (by decide) t).bind fun _ t3 ht3 => by show t3.length < _; omega
theorem pArr_in (ts : List Tok) : (pArr ts).In ts.length :=
  (nameS_in ts).bind fun nm t ht => (expectS_in _ (by decide) t).bind fun _ t1 ht1 => (numS_in 1 t1).bind fun v t2 ht2 => (expectS_in _ (by decide) t2).bind fun _ t3 ht3 => (expectS_in _ (by decide) t3).bind fun _ t4 ht4 => by show t4.length < _; omega
theorem pDecls_in : ∀ (f : Nat) (acc : List Vr) (ts : List Tok), ts.length + 1 ≤ f → (pDecls f acc ts).In (ts.length + 1)
  | 0, _, _, h => by omega
  | f + 1, acc, ts, h => by
    rw [pDecls]
    by_cases h1 : txt ts = [118, 97, 114]
    · rw [if_pos h1]
      have := tail_lt h1 (by decide)
      exact (pVar_in _).bind fun v t ht => (pDecls_in f _ t (by omega)).mono (by omega)
    · rw [if_neg h1]
      by_cases h2 : txt ts = [97, 114, 114, 97, 121]
      · rw [if_pos h2]
        have := tail_lt h2 (by decide)
        exact (pArr_in _).bind fun v t ht => (pDecls_in f _ t (by omega)).mono (by omega)
      · rw [if_neg h2]; show ts.length < ts.length + 1; omega
theorem pBodies_in : ∀ (f : Nat) (b : Bd) (ts : List Tok), 9 * ts.length + 1 ≤ f → (pBodies f b ts).In (ts.length + 1)
  | 0, _, _, h => by omega
  | f + 1, b, ts, h => by
    rw [pBodies]
    by_cases h1 : txt ts = [111, 110]
    · rw [if_pos h1]
      have := tail_lt h1 (by decide)
      have h2 : ts.tail.tail.length ≤ ts.tail.length := by simp
      split
      · exact (pBlock_in (by omega)).bind fun l t ht => (pBodies_in f _ t (by omega)).mono (by omega)
      · exact trivial
    · rw [if_neg h1]; show ts.length < ts.length + 1; omega
theorem pProg_in (ts : List Tok) : (pProg (bigF ts) ts).In 1 := by
  unfold pProg bigF
  refine (pDecls_in _ [] ts (by omega)).bind fun vs t ht => (pBodies_in _ bd0 t (by omega)).bind fun b t2 ht2 => ?_
  split
  · exact Nat.zero_lt_one
  · exact trivial
theorem Res.In.ne {α : Type} {n : Nat} {r : Res α} (h : r.In n) : r ≠ .out := fun e => by rw [e] at h; exact h
end Go.Proofs.YtgkioompcmgmdaaDoor
