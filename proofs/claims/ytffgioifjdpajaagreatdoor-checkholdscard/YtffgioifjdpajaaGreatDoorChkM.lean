/-
  The checker as a function over trees: what layer 5 says of a program.
-/
import Derived.Test.YtffgioifjdpajaaGreatDoorParAH
namespace Go.Proofs.YtffgioifjdpajaaGreatDoor
open Go.ChangeShapes Go.WideShapes Go.ChangeAt Go.RowKit
set_option linter.unusedVariables false

/-- Names and what they stand for, the last one put first; none: it was struck. -/
abbrev NMap := List (List UInt8 × Option Int)
/-- What a name stands for: the last one that was put. -/
def look : NMap → List UInt8 → Option Int
  | [], _ => none
  | (y, v) :: m, x => if y = x then v else look m x
def forget (m : NMap) (x : List UInt8) : NMap := (x, none) :: m
/-- The checker: the program that it looks at, the names, the first fault. -/
structure Ck where
  gs : List Gl
  fs : List Fn
  gm : NMap
  fm : NMap
  lm : NMap
  err : Int
  line : Int
  col : Int
def noGl : Gl := ⟨[], 0, 0, 0, 0⟩
def noFn : Fn := ⟨[], [], [], 0, 0⟩
def Ck.fail (c : Ck) (e l k : Int) : Ck := if c.err = 0 then { c with err := e, line := l, col := k } else c
def Ck.glAt (c : Ck) (i : Int) : Gl := c.gs.getD i.toNat noGl
def Ck.fnAt (c : Ck) (i : Int) : Fn := c.fs.getD i.toNat noFn
def Ck.known (c : Ck) (x : List UInt8) : Bool := (look c.lm x).isSome || (look c.gm x).isSome || (look c.fm x).isSome
def Ck.variable (c : Ck) (x : List UInt8) : Int :=
  match look c.lm x with
  | some t => t
  | none => match look c.gm x with
    | some i => if (c.glAt i).size = 0 then 1 else 0
    | none => 0
def Ck.array (c : Ck) (x : List UInt8) : Bool :=
  match look c.gm x with
  | some i => decide (0 < (c.glAt i).size)
  | none => false
def Ck.unless (c : Ck) (b : Bool) (e l k : Int) : Ck := if b then c else c.fail e l k
def Ex.line : Ex → Int | .mk _ l _ _ _ _ _ => l
def Ex.col : Ex → Int | .mk _ _ c _ _ _ _ => c
def knownOp (o : Int) : Bool := decide (1 ≤ o) && decide (o ≤ 15)
def truthOp (o : Int) : Bool := decide (11 ≤ o) && decide (o ≤ 15)
/-- The type of an op's value. -/
def bothT (o : Int) : Int := if truthOp o then 2 else 1
mutual
/-- An expression's type, and the checker behind it. -/
def ckExpr : Ex → Ck → Int × Ck
  | .mk kind line col num name op kids, c =>
    if kind = 1 then (1, c) else if kind = 2 then (2, c)
    else if kind = 3 then (c.variable name, c.unless (!(c.variable name == 0)) 21 line col)
    else if kind = 4 then (1, ckKids kids 1 ((c.unless (c.array name) 21 line col).unless (kids.length == 1) 40 line col))
    else if kind = 5 then
      match look c.fm name with
      | none => (0, c.fail 21 line col)
      | some i => (1, ckKids kids 1 (c.unless (kids.length == (c.fnAt i).params.length) 23 line col))
    else if kind = 6 then (bothT op, (ckKids kids 1 (c.unless (kids.length == 2) 40 line col)).unless (knownOp op && !(op == 15)) 40 line col)
    else if kind = 7 ∨ kind = 8 then (2, ckKids kids 2 (c.unless (kids.length == 2) 40 line col))
    else if kind = 9 then (2, ckKids kids 2 (c.unless (kids.length == 1) 40 line col))
    else (0, c.fail 40 line col)
def ckKids : List Ex → Int → Ck → Ck
  | [], _, c => c
  | e :: r, t, c => ckKids r t ((ckExpr e c).2.unless ((ckExpr e c).1 == t) 22 e.line e.col)
end
def ckWant (e : Ex) (t : Int) (c : Ck) : Ck := (ckExpr e c).2.unless ((ckExpr e c).1 == t) 22 e.line e.col
/-- The i-th expression of a statement. -/
def ckPart (es : List Ex) (i : Nat) (t l k : Int) (c : Ck) : Ck :=
  match es[i]? with
  | some e => ckWant e t c
  | none => c.fail 40 l k
def ckLet (l k : Int) (name : List UInt8) (es : List Ex) (c : Ck) : Ck :=
  match es[0]? with
  | none => c.fail 40 l k
  | some e => let r := ckExpr e c; let d := r.2.unless (!r.2.known name) 20 l k; { d with lm := (name, some r.1) :: d.lm }
def letsOf : List Sm → List (List UInt8)
  | [] => []
  | .mk does _ _ name _ _ _ :: r => if does = 1 then name :: letsOf r else letsOf r
def Ck.drops (c : Ck) : List (List UInt8) → Ck
  | [] => c
  | x :: r => Ck.drops { c with lm := forget c.lm x } r
mutual
def ckStmt : Sm → Ck → Ck
  | .mk does l k name es thn els, c =>
    if does = 1 then ckLet l k name es c
    else if does = 2 then ckPart es 0 (c.variable name) l k (c.unless (!(c.variable name == 0)) 21 l k)
    else if does = 3 then ckPart es 1 1 l k (ckPart es 0 1 l k (c.unless (c.array name) 21 l k))
    else if does = 4 ∨ does = 5 then (ckStmts els ((ckStmts thn (ckPart es 0 2 l k c)).drops (letsOf thn))).drops (letsOf els)
    else if does = 6 ∨ does = 7 then ckPart es 0 1 l k c
    else c.fail 40 l k
def ckStmts : List Sm → Ck → Ck
  | [], c => c
  | s :: r, c => ckStmts r (ckStmt s c)
end
def ckBlock (l : List Sm) (c : Ck) : Ck := (ckStmts l c).drops (letsOf l)
def ckSizes : List Gl → Ck → Ck
  | [], c => c
  | g :: r, c => ckSizes r (c.unless (decide (0 ≤ g.size) && decide (g.size ≤ 4096) && decide (0 ≤ g.hold) && decide (g.hold ≤ 2)) 40 g.line g.col)
def ckGlobals : List Gl → Int → Ck → Ck
  | [], _, c => c
  | g :: r, i, c => let d := (c.unless (!c.known g.name) 20 g.line g.col).unless (decide (i < 64)) 3 g.line g.col; ckGlobals r (i + 1) { d with gm := (g.name, some i) :: d.gm }
def ckFuncs : List Fn → Int → Ck → Ck
  | [], _, c => c
  | f :: r, i, c => let d := (c.unless (!c.known f.name) 20 f.line f.col).unless (decide (i < 256) && decide (f.params.length ≤ 6)) 3 f.line f.col; ckFuncs r (i + 1) { d with fm := (f.name, some i) :: d.fm }
def ckParams (l k : Int) : List (List UInt8) → Ck → Ck
  | [], c => c
  | x :: r, c => let d := c.unless (!c.known x) 20 l k; ckParams l k r { d with lm := (x, some 1) :: d.lm }
def ckFunc (f : Fn) (c : Ck) : Ck := ckBlock f.body (ckParams f.line f.col f.params { c with lm := [] })
def ckBodies : List Fn → Ck → Ck
  | [], c => c
  | f :: r, c => ckBodies r (ckFunc f c)
def mainL : List UInt8 := [109, 97, 105, 110]
def ckStart (c : Ck) : Ck :=
  match look c.fm mainL with
  | none => c.fail 24 1 1
  | some i => c.unless ((c.fnAt i).params.length == 0) 24 1 1
def ck0 (p : Pr) : Ck := ⟨p.globals, p.funcs, [], [], [], 0, 0, 0⟩
def ckProg (p : Pr) : Ck := ckStart (ckBodies p.funcs (ckFuncs p.funcs 0 (ckGlobals p.globals 0 (ckSizes p.globals (ck0 p)))))
/-- What check.Text says of a text: its fault. -/
def ckText (l : List UInt8) : Int × Int × Int :=
  if (parseL l).2.1 ≠ 0 then (parseL l).2 else ((ckProg (parseL l).1).err, (ckProg (parseL l).1).line, (ckProg (parseL l).1).col)
end Go.Proofs.YtffgioifjdpajaaGreatDoor
