/-
  The checker as a function over trees: what layer 5 says of a program.
  The checker's memory: its maps of names, its block.
  The checker: fail, known, variable, array.
  The checker: variable, array.
  The checker: want, kids.
  The checker: value, index, both, call, expr.
  The checker: call, expr.
  The checker: lacks, part, set, put.
  The checker: set, put, let.
  The checker: let.
  The checker: block.
  The checker: block, over statements that are as they should be.
  The checker: stmt, and every block.
-/
import Derived.Test.YtaomlahphlemdaaGreatDoorParAH
import Derived.Maps.OwnSet
namespace Go.Proofs.YtaomlahphlemdaaGreatDoor
open Go.ChangeShapes Go.WideShapes Go.ChangeAt Go.RowKit
set_option linter.unusedVariables false

/-- Names and what they stand for, the last one put first; none: it was struck. -/
abbrev NMap := List (List UInt8 × Option Int)
/-- What a name stands for: the last one that was put. -/
def look : NMap → List UInt8 → Option Int
  | [], _ => none
  | (y, v) :: m, x => if y = x then v else look m x
def forget (m : NMap) (x : List UInt8) : NMap := (x, none) :: m
/-- The checker: the program that it looks at, the names, the first fault. -/
structure Ck where
  gs : List Gl
  fs : List Fn
  gm : NMap
  fm : NMap
  lm : NMap
  err : Int
  line : Int
  col : Int
def noGl : Gl := ⟨[], 0, 0, 0, 0⟩
def noFn : Fn := ⟨[], [], [], 0, 0⟩
def Ck.fail (c : Ck) (e l k : Int) : Ck := if c.err = 0 then { c with err := e, line := l, col := k } else c
def Ck.glAt (c : Ck) (i : Int) : Gl := c.gs.getD i.toNat noGl
def Ck.fnAt (c : Ck) (i : Int) : Fn := c.fs.getD i.toNat noFn
def Ck.known (c : Ck) (x : List UInt8) : Bool := (look c.lm x).isSome || (look c.gm x).isSome || (look c.fm x).isSome
def Ck.variable (c : Ck) (x : List UInt8) : Int :=
  match look c.lm x with
  | some t => t
  | none => match look c.gm x with
    | some i => if (c.glAt i).size = 0 then 1 else 0
    | none => 0
def Ck.array (c : Ck) (x : List UInt8) : Bool :=
  match look c.gm x with
  | some i => decide (0 < (c.glAt i).size)
  | none => false
def Ck.unless (c : Ck) (b : Bool) (e l k : Int) : Ck := if b then c else c.fail e l k
def Ex.line : Ex → Int | .mk _ l _ _ _ _ _ => l
def Ex.col : Ex → Int | .mk _ _ c _ _ _ _ => c
def knownOp (o : Int) : Bool := decide (1 ≤ o) && decide (o ≤ 15)
def truthOp (o : Int) : Bool := decide (11 ≤ o) && decide (o ≤ 15)
/-- The type of an op's value. -/
def bothT (o : Int) : Int := if truthOp o then 2 else 1
mutual
/-- An expression's type, and the checker behind it. -/
def ckExpr : Ex → Ck → Int × Ck
  | .mk kind line col num name op kids, c =>
    if kind = 1 then (1, c) else if kind = 2 then (2, c)
    else if kind = 3 then (c.variable name, c.unless (!(c.variable name == 0)) 21 line col)
    else if kind = 4 then (1, ckKids kids 1 ((c.unless (c.array name) 21 line col).unless (kids.length == 1) 40 line col))
    else if kind = 5 then
      match look c.fm name with
      | none => (0, c.fail 21 line col)
      | some i => (1, ckKids kids 1 (c.unless (kids.length == (c.fnAt i).params.length) 23 line col))
    else if kind = 6 then (bothT op, (ckKids kids 1 (c.unless (kids.length == 2) 40 line col)).unless (knownOp op && !(op == 15)) 40 line col)
    else if kind = 7 ∨ kind = 8 then (2, ckKids kids 2 (c.unless (kids.length == 2) 40 line col))
    else if kind = 9 then (2, ckKids kids 2 (c.unless (kids.length == 1) 40 line col))
    else (0, c.fail 40 line col)
def ckKids : List Ex → Int → Ck → Ck
  | [], _, c => c
  | e :: r, t, c => ckKids r t ((ckExpr e c).2.unless ((ckExpr e c).1 == t) 22 e.line e.col)
end
def ckWant (e : Ex) (t : Int) (c : Ck) : Ck := (ckExpr e c).2.unless ((ckExpr e c).1 == t) 22 e.line e.col
/-- The i-th expression of a statement. -/
def ckPart (es : List Ex) (i : Nat) (t l k : Int) (c : Ck) : Ck :=
  match es[i]? with
  | some e => ckWant e t c
  | none => c.fail 40 l k
def ckLet (l k : Int) (name : List UInt8) (es : List Ex) (c : Ck) : Ck :=
  match es[0]? with
  | none => c.fail 40 l k
  | some e => let r := ckExpr e c; let d := r.2.unless (!r.2.known name) 20 l k; { d with lm := (name, some r.1) :: d.lm }
def letsOf : List Sm → List (List UInt8)
  | [] => []
  | .mk does _ _ name _ _ _ :: r => if does = 1 then name :: letsOf r else letsOf r
def Ck.drops (c : Ck) : List (List UInt8) → Ck
  | [] => c
  | x :: r => Ck.drops { c with lm := forget c.lm x } r
mutual
def ckStmt : Sm → Ck → Ck
  | .mk does l k name es thn els, c =>
    if does = 1 then ckLet l k name es c
    else if does = 2 then ckPart es 0 (c.variable name) l k (c.unless (!(c.variable name == 0)) 21 l k)
    else if does = 3 then ckPart es 1 1 l k (ckPart es 0 1 l k (c.unless (c.array name) 21 l k))
    else if does = 4 ∨ does = 5 then (ckStmts els ((ckStmts thn (ckPart es 0 2 l k c)).drops (letsOf thn))).drops (letsOf els)
    else if does = 6 ∨ does = 7 then ckPart es 0 1 l k c
    else c.fail 40 l k
def ckStmts : List Sm → Ck → Ck
  | [], c => c
  | s :: r, c => ckStmts r (ckStmt s c)
end
def ckBlock (l : List Sm) (c : Ck) : Ck := (ckStmts l c).drops (letsOf l)
def ckSizes : List Gl → Ck → Ck
  | [], c => c
  | g :: r, c => ckSizes r (c.unless (decide (0 ≤ g.size) && decide (g.size ≤ 4096) && decide (0 ≤ g.hold) && decide (g.hold ≤ 2)) 40 g.line g.col)
def ckGlobals : List Gl → Int → Ck → Ck
  | [], _, c => c
  | g :: r, i, c => let d := (c.unless (!c.known g.name) 20 g.line g.col).unless (decide (i < 64)) 3 g.line g.col; ckGlobals r (i + 1) { d with gm := (g.name, some i) :: d.gm }
def ckFuncs : List Fn → Int → Ck → Ck
  | [], _, c => c
  | f :: r, i, c => let d := (c.unless (!c.known f.name) 20 f.line f.col).unless (decide (i < 256) && decide (f.params.length ≤ 6)) 3 f.line f.col; ckFuncs r (i + 1) { d with fm := (f.name, some i) :: d.fm }
def ckParams (l k : Int) : List (List UInt8) → Ck → Ck
  | [], c => c
  | x :: r, c => let d := c.unless (!c.known x) 20 l k; ckParams l k r { d with lm := (x, some 1) :: d.lm }
def ckFunc (f : Fn) (c : Ck) : Ck := ckBlock f.body (ckParams f.line f.col f.params { c with lm := [] })
def ckBodies : List Fn → Ck → Ck
  | [], c => c
  | f :: r, c => ckBodies r (ckFunc f c)
def mainL : List UInt8 := [109, 97, 105, 110]
def ckStart (c : Ck) : Ck :=
  match look c.fm mainL with
  | none => c.fail 24 1 1
  | some i => c.unless ((c.fnAt i).params.length == 0) 24 1 1
def ck0 (p : Pr) : Ck := ⟨p.globals, p.funcs, [], [], [], 0, 0, 0⟩
def ckProg (p : Pr) : Ck := ckStart (ckBodies p.funcs (ckFuncs p.funcs 0 (ckGlobals p.globals 0 (ckSizes p.globals (ck0 p)))))
/-- What check.Text says of a text: its fault. -/
def ckText (l : List UInt8) : Int × Int × Int :=
  if (parseL l).2.1 ≠ 0 then (parseL l).2 else ((ckProg (parseL l).1).err, (ckProg (parseL l).1).line, (ckProg (parseL l).1).col)
end Go.Proofs.YtaomlahphlemdaaGreatDoor

namespace Go.Proofs.YtaomlahphlemdaaGreatDoor
open Go.ChangeShapes Go.WideShapes Go.ChangeAt Go.RowKit
set_option linter.unusedVariables false

theorem strKeyed : Maps.Keyed Tryz.prog 9 := Maps.string_keyed Tryz.underlying9
theorem zInt (w : World) : (zeroValue 3).run Tryz.prog w = .ok (.int .i64 0) w := by kernel_rfl
theorem zType (w : World) : (zeroValue 141).run Tryz.prog w = .ok (.int .i64 0) w := by kernel_rfl
theorem uType : Tryz.prog.underlying 141 = some (.int .i64) := by kernel_rfl
/-- An element type that is a word. -/
structure WordE (e : TypeId) : Prop where
  under : Tryz.prog.underlying e = some (.int .i64)
  zero : ∀ w, (zeroValue e).run Tryz.prog w = .ok (.int .i64 0) w
theorem wInt : WordE 3 := ⟨Tryz.underlying3, zInt⟩
theorem wType : WordE 141 := ⟨uType, zType⟩
/-- How many names there are. -/
def nsize : NMap → Nat
  | [] => 0
  | (x, some _) :: m => if (look m x).isSome then nsize m else nsize m + 1
  | (x, none) :: m => if (look m x).isSome then nsize m - 1 else nsize m
/-- Block B is a map from names to words. -/
def NM (e : TypeId) (w : World) (B : Nat) (m : NMap) : Prop :=
  ∃ D : DataW Unit, w.ownsMap Tryz.prog 9 (plainElem Tryz.prog e) B m.length D ∧ Maps.size D = nsize m ∧ ∀ x : List UInt8, Maps.has D (.string x) = (look m x).isSome ∧ D.atKey (.string x) (.lit (.int .i64 0)) = .lit (.int .i64 ((look m x).getD 0))
theorem NM.lt {e : TypeId} {w : World} {B : Nat} {m : NMap} (h : NM e w B m) : B < w.heap.size := by obtain ⟨D, h, _⟩ := h; exact h.lt
theorem NM.keep {e : TypeId} {w w' : World} {B : Nat} {m : NMap} (h : NM e w B m) (hb : w'.heap[B]? = w.heap[B]?) : NM e w' B m := by
  obtain ⟨D, ⟨es, clock, h1, h2, h3, h4⟩, h5⟩ := h
  exact ⟨D, ⟨es, clock, hb.trans h1, h2, h3, h4⟩, h5⟩
theorem nm_made (e : TypeId) (w : World) : NM e (w.alloc (.map #[] 0)) w.heap.size [] :=
  ⟨.map [], World.ownsMap_made w _ _ _, rfl, fun x => ⟨rfl, rfl⟩⟩
theorem key_str {x : List UInt8} (hx : x.length ≤ maxLen) : keyOf Tryz.prog 9 (.string ⟨x.toArray⟩) = some (.string x) := by
  rw [WideMaps.keyOf_string_mk Tryz.underlying9 (by simpa [ByteArray.size] using hx)]
theorem NM.look {T e : TypeId} {w : World} {B : Nat} {m : NMap} (he : WordE e) (ht : Tryz.prog.underlying T = some (.map 9 e)) (h : NM e w B m) {x : List UInt8} (hx : x.length ≤ maxLen) :
    (Instr.lookup T (.map (some B)) (.string ⟨x.toArray⟩) true).run Tryz.prog w = .ok (.tuple #[.int .i64 ((look m x).getD 0), .bool (look m x).isSome]) w := by
  obtain ⟨D, hown, hsz, hD⟩ := h
  obtain ⟨v, ps, hrun, hv⟩ := hown.look_ok strKeyed ht (he.zero w) (plainElem_int he.under (by decide)) (key_str hx)
  rw [(hD x).2] at hv
  obtain ⟨a, rfl, hz, _⟩ := plainElem_int_inv he.under hv
  rw [(hD x).1] at hrun
  have : a = (Go.Proofs.YtaomlahphlemdaaGreatDoor.look m x).getD 0 := by
    have := congrArg Prod.fst hz
    simpa using this.symm
  rw [← this]
  exact hrun
theorem key_lit (x : List UInt8) (hx : x.length ≤ maxLen) : WideAt.IsKeyLit (.string x) := by
  exact strKeyed.key (key_str hx)
theorem NM.put {T e : TypeId} {w : World} {B : Nat} {m : NMap} (he : WordE e) (ht : Tryz.prog.underlying T = some (.map 9 e)) (h : NM e w B m) (hn : m.length < maxLen) {x : List UInt8} (hx : x.length ≤ maxLen) {v : Int} (hv : (Lit.int .i64 v).wf = true) :
    ∃ w', (Instr.mapUpdate T (.map (some B)) (.string ⟨x.toArray⟩) (.int .i64 v)).run Tryz.prog w = .ok () w' ∧ NM e w' B ((x, some v) :: m) ∧ w.grownBy w' (some B) := by
  obtain ⟨D, hown, hsz, hD⟩ := h
  obtain ⟨w', hrun, h1, h2⟩ := hown.update strKeyed ht hn (key_str hx) (plainElem_int he.under hv)
  refine ⟨w', hrun, ⟨_, h1, by rw [Maps.size_put (hown.tidy strKeyed), (hD x).1, hsz]; simp only [nsize], fun y => ?_⟩, h2⟩
  by_cases e : x = y
  · subst e
    rw [Maps.has_put_same hown.isMap (key_lit x hx), Maps.atKey_put_same hown.isMap (key_lit x hx)]
    simp [Go.Proofs.YtaomlahphlemdaaGreatDoor.look]
  · have hne : (Lit.string y) ≠ .string x := fun q => e (Lit.string.inj q).symm
    rw [Maps.has_put_other hne, Maps.atKey_put_other hne]
    simp only [Go.Proofs.YtaomlahphlemdaaGreatDoor.look, if_neg e]
    exact hD y
theorem NM.del {T e : TypeId} {w : World} {B : Nat} {m : NMap} (ht : Tryz.prog.underlying T = some (.map 9 e)) (h : NM e w B m) {x : List UInt8} (hx : x.length ≤ maxLen) (ty : TypeId) :
    ∃ w', (Builtin.delete_ #[T, 9] ty #[.map (some B), .string ⟨x.toArray⟩]).run Tryz.prog w = .ok (.tuple #[]) w' ∧ NM e w' B ((x, none) :: m) ∧ w.grownBy w' (some B) := by
  obtain ⟨D, hown, hsz, hD⟩ := h
  obtain ⟨w', hrun, h1, h2⟩ := hown.drop strKeyed ht (key_str hx) ty
  refine ⟨w', hrun, ⟨_, h1.mono (Nat.le_succ _), by
    have := Maps.size_del (k := .string x) (hown.tidy strKeyed)
    rw [(hD x).1, hsz] at this
    simp only [nsize]
    split at this <;> rename_i hq <;> simp only [hq] <;> simp <;> omega, fun y => ?_⟩, h2.grown⟩
  by_cases e : x = y
  · subst e
    rw [Maps.has_del_same, Maps.atKey_del_same]
    simp [Go.Proofs.YtaomlahphlemdaaGreatDoor.look]
  · have hne : (Lit.string y) ≠ .string x := fun q => e (Lit.string.inj q).symm
    rw [Maps.has_del_other hne, Maps.atKey_del_other hne]
    simp only [Go.Proofs.YtaomlahphlemdaaGreatDoor.look, if_neg e]
    exact hD y
theorem NM.len {T e : TypeId} {w : World} {B : Nat} {m : NMap} (ht : Tryz.prog.underlying T = some (.map 9 e)) (h : NM e w B m) (ty : TypeId) : (Builtin.len_ #[T] ty #[.map (some B)]).run Tryz.prog w = .ok (.int .i64 (nsize m)) w := by
  obtain ⟨D, hown, hsz, _⟩ := h
  rw [← hsz]
  exact hown.len ht ty
/-- Only blocks of X have turned; new ones may be there. -/
structure Turn (X : Nat → Prop) (w w' : World) : Prop where
  os : w'.os = w.os
  tape : w'.tape = w.tape
  output : w'.output = w.output
  size : w.heap.size ≤ w'.heap.size
  block : ∀ k, k < w.heap.size → ¬ X k → w'.heap[k]? = w.heap[k]?
theorem Turn.refl (X : Nat → Prop) (w : World) : Turn X w w := ⟨rfl, rfl, rfl, Nat.le_refl _, fun _ _ _ => rfl⟩
theorem Turn.trans {X : Nat → Prop} {a b c : World} (h : Turn X a b) (k : Turn X b c) : Turn X a c :=
  ⟨k.os.trans h.os, k.tape.trans h.tape, k.output.trans h.output, Nat.le_trans h.size k.size, fun q hq hx => (k.block q (Nat.lt_of_lt_of_le hq h.size) hx).trans (h.block q hq hx)⟩
theorem Turn.mono {X Y : Nat → Prop} {w w' : World} (h : Turn X w w') (hxy : ∀ k, X k → Y k) : Turn Y w w' := ⟨h.os, h.tape, h.output, h.size, fun k hk hy => h.block k hk (fun hx => hy (hxy k hx))⟩
theorem Turn.grown {X : Nat → Prop} {w w' : World} {r : Option Nat} (h : w.grownBy w' r) (hr : ∀ k, r = some k → X k) : Turn X w w' := ⟨h.os, h.tape, h.output, h.size, fun k hk hx => h.block k hk (fun e => hx (hr k e.symm))⟩
theorem Turn.alloc {X : Nat → Prop} {w w' : World} (h : Turn X w w') (o : Obj) : Turn X w (w'.alloc o) := h.trans (Turn.grown (grown_alloc w' o) (fun _ q => by cases q))
theorem Turn.put {X : Nat → Prop} {w w' : World} (h : Turn X w w') (b j : Nat) (v : Value) (hb : X b ∨ w.heap.size ≤ b) : Turn X w (w'.setCell ⟨b, j, none⟩ v) :=
  ⟨h.os, h.tape, h.output, by have := h.size; simpa using this, fun k hk hx => (Below.heap_setCell _ _ _ _ (by
    show k ≠ b
    rcases hb with hb | hb
    · intro q; subst q; exact hx hb
    · omega)).trans (h.block k hk hx)⟩
theorem Turn.cell {X : Nat → Prop} {w w' : World} (h : Turn X w w') {q : Nat} (hq : q < w.heap.size) (hx : ¬ X q) (o : Nat) : w'.cell? ⟨q, o, none⟩ = w.cell? ⟨q, o, none⟩ := World.cell?_of_block (h.block q hq hx)
/-- The locals: none yet, or a map. -/
def LM (w : World) (lv : Value) (m : NMap) : Prop := (lv = .map none ∧ m = []) ∨ ∃ L, lv = .map (some L) ∧ NM 141 w L m
/-- The checker's eight cells. -/
def cellsK (gv fv : Value) (G F : Nat) (lv : Value) (k : Ck) : Array Value := #[gv, fv, .map (some G), .map (some F), lv, .int .i64 k.err, .int .i64 k.line, .int .i64 k.col]
/-- Block C is the checker: the trees lie below base, its own blocks do not. -/
structure Checks (base C G F : Nat) (lv : Value) (k : Ck) (w : World) : Prop where
  blk : ∃ gv fv, w.heap[C]? = some (.cells (cellsK gv fv G F lv k) 108 (0, 0)) ∧ GlsAt w (· < base) k.gs gv ∧ FnsAt w (· < base) k.fs fv
  gm : NM 3 w G k.gm
  fm : NM 3 w F k.fm
  lm : LM w lv k.lm
  low : base ≤ C ∧ base ≤ G ∧ base ≤ F ∧ ∀ L, lv = .map (some L) → base ≤ L ∧ L ≠ G ∧ L ≠ F
  gf : G ≠ F
  gi : ∀ x i, look k.gm x = some i → ∃ j : Nat, i = j ∧ j < k.gs.length
  fi : ∀ x i, look k.fm x = some i → ∃ j : Nat, i = j ∧ j < k.fs.length
theorem map_ne {e : TypeId} {w : World} {B C : Nat} {m : NMap} {cs : Array Value} {t : TypeId} {z : Nat × Nat} (h : NM e w B m) (hc : w.heap[C]? = some (.cells cs t z)) : B ≠ C := by
  obtain ⟨D, ⟨es, clock, h1, _⟩, _⟩ := h
  intro q; subst q; rw [h1] at hc; cases hc
/-- Nothing of the checker's has turned. -/
theorem Checks.keep {base C G F : Nat} {lv : Value} {k : Ck} {w w' : World} (h : Checks base C G F lv k w) {X : Nat → Prop} (ht : Turn X w w') (hX : ∀ q, X q → base ≤ q ∧ q ≠ C ∧ q ≠ G ∧ q ≠ F ∧ lv ≠ .map (some q)) : Checks base C G F lv k w' := by
  obtain ⟨⟨gv, fv, hb, h1, h2⟩, h3, h4, h5, h6, h7, h8, h9⟩ := h
  have hcl := (Array.getElem?_eq_some_iff.1 hb).1
  have hk : ∀ g, g < base → g < w.heap.size → ∀ o, w'.cell? ⟨g, o, none⟩ = w.cell? ⟨g, o, none⟩ := fun g hg hl o => ht.cell hl (fun q => by have := (hX g q).1; omega) o
  refine ⟨⟨gv, fv, (ht.block C hcl (fun q => (hX C q).2.1 rfl)).trans hb, h1.keep ht.size (fun g hg _ => hg) hk, h2.keep ht.size (fun g hg _ => hg) hk⟩, h3.keep (ht.block G h3.lt (fun q => (hX G q).2.2.1 rfl)), h4.keep (ht.block F h4.lt (fun q => (hX F q).2.2.2.1 rfl)), ?_, h6, h7, h8, h9⟩
  rcases h5 with h5 | ⟨L, rfl, h5⟩
  · exact .inl h5
  · exact .inr ⟨L, rfl, h5.keep (ht.block L h5.lt (fun q => (hX L q).2.2.2.2 rfl))⟩
end Go.Proofs.YtaomlahphlemdaaGreatDoor

namespace Go.Proofs.YtaomlahphlemdaaGreatDoor
open Go.ChangeShapes Go.WideShapes Go.ChangeAt Go.RowKit
set_option linter.unusedVariables false

theorem uMapI : Tryz.prog.underlying 79 = some (.map 9 3) := by kernel_rfl
theorem uMapT : Tryz.prog.underlying 106 = some (.map 9 141) := by kernel_rfl
/-- Its cells, one by one. -/
theorem Checks.open {base C G F : Nat} {lv : Value} {k : Ck} {w : World} (h : Checks base C G F lv k w) : ∃ gv fv, C < w.heap.size ∧ GlsAt w (· < base) k.gs gv ∧ FnsAt w (· < base) k.fs fv ∧
    w.cell? ⟨C, 0, none⟩ = some gv ∧ w.cell? ⟨C, 1, none⟩ = some fv ∧ w.cell? ⟨C, 2, none⟩ = some (.map (some G)) ∧ w.cell? ⟨C, 3, none⟩ = some (.map (some F)) ∧ w.cell? ⟨C, 4, none⟩ = some lv ∧ w.cell? ⟨C, 5, none⟩ = some (.int .i64 k.err) ∧ w.cell? ⟨C, 6, none⟩ = some (.int .i64 k.line) ∧ w.cell? ⟨C, 7, none⟩ = some (.int .i64 k.col) ∧ ∀ j, w.frozen? ⟨C, j, none⟩ = false := by
  obtain ⟨gv, fv, hb, h1, h2⟩ := h.blk
  refine ⟨gv, fv, (Array.getElem?_eq_some_iff.1 hb).1, h1, h2, ?_, ?_, ?_, ?_, ?_, ?_, ?_, ?_, fun j => Lib.frozen_of_heap hb j⟩ <;> (rw [Lib.cell_of_heap hb]; rfl)
/-- The fault is written. -/
theorem Checks.fault {base C G F : Nat} {lv : Value} {k : Ck} {w : World} (h : Checks base C G F lv k w) (e l c : Int) : Checks base C G F lv { k with err := e, line := l, col := c } (((w.setCell ⟨C, 5, none⟩ (.int .i64 e)).setCell ⟨C, 6, none⟩ (.int .i64 l)).setCell ⟨C, 7, none⟩ (.int .i64 c)) := by
  obtain ⟨⟨gv, fv, hb, h1, h2⟩, h3, h4, h5, h6, h7, h8, h9⟩ := h
  have ht : Turn (· = C) w (((w.setCell ⟨C, 5, none⟩ (.int .i64 e)).setCell ⟨C, 6, none⟩ (.int .i64 l)).setCell ⟨C, 7, none⟩ (.int .i64 c)) := (((Turn.refl (· = C) w).put C 5 _ (.inl rfl)).put C 6 _ (.inl rfl)).put C 7 _ (.inl rfl)
  have hk : ∀ g, g < base → g < w.heap.size → ∀ o, (((w.setCell ⟨C, 5, none⟩ (.int .i64 e)).setCell ⟨C, 6, none⟩ (.int .i64 l)).setCell ⟨C, 7, none⟩ (.int .i64 c)).cell? ⟨g, o, none⟩ = w.cell? ⟨g, o, none⟩ := fun g hg hl o => ht.cell hl (by have := h6.1; omega) o
  refine ⟨⟨gv, fv, ?_, h1.keep ht.size (fun g hg _ => hg) hk, h2.keep ht.size (fun g hg _ => hg) hk⟩, h3.keep (ht.block G h3.lt (map_ne h3 hb)), h4.keep (ht.block F h4.lt (map_ne h4 hb)), ?_, h6, h7, h8, h9⟩
  · rw [set_block _ _ _ _ _ _ (set_block _ _ _ _ _ _ (set_block _ _ _ _ _ _ hb))]; rfl
  · rcases h5 with h5 | ⟨L, rfl, h5⟩
    · exact .inl h5
    · exact .inr ⟨L, rfl, h5.keep (ht.block L h5.lt (map_ne h5 hb))⟩
theorem Checks.alloc {base C G F : Nat} {lv : Value} {k : Ck} {w : World} (h : Checks base C G F lv k w) (o : Obj) : Checks base C G F lv k (w.alloc o) :=
  h.keep (X := fun _ => False) (Turn.grown (grown_alloc w o) (fun _ q => by cases q)) (fun _ q => q.elim)
def CkPost (base C G F : Nat) (lv : Value) (k' : Ck) (v : Value) (w : World) (e : Ending) (w' : World) : Prop := e = .returned v ∧ Turn (· = C) w w' ∧ Checks base C G F lv k' w'
set_option maxHeartbeats 1000000 in
set_option maxRecDepth 100000 in
theorem ckfail_any {base C G F : Nat} {lv : Value} {k : Ck} {w : World} (h : Checks base C G F lv k w) (e l c : Int) : Calls Tryz.prog 63 #[.pointer (some ⟨C, 0, none⟩), .int .i64 e, .agg #[.int .i64 l, .int .i64 c]] w (CkPost base C G F lv (k.fail e l c) (.tuple #[]) w) := by
  have HC := Lib.hid h
  obtain ⟨gv, fv, hlt, _, _, _, _, _, _, _, c5, c6, c7, hf⟩ := h.open
  have f5 := hf 5; have f6 := hf 6; have f7 := hf 7
  clear h hf
  by_cases he : k.err = 0
  · have b0 : (k.err == 0) = true := by simpa using he
    have HK := Lib.hid (show k.fail e l c = { k with err := e, line := l, col := c } by unfold Ck.fail; rw [if_pos he])
    clear he
    go_enter Tryz.func63, Tryz.ntmps63
    go_wp2_with (fail)
    go_end0
    unfold CkPost
    rw [HK.out]
    exact ⟨rfl, ((((Turn.refl (· = C) w).put C 5 _ (.inl rfl)).put C 6 _ (.inl rfl)).put C 7 _ (.inl rfl)).alloc _, (HC.out.fault e l c).alloc _⟩
  · have b0 : (k.err == 0) = false := by simpa using he
    have HK := Lib.hid (show k.fail e l c = k by unfold Ck.fail; rw [if_neg he])
    clear he
    go_enter Tryz.func63, Tryz.ntmps63
    go_wp2_with (fail)
    go_end0
    unfold CkPost
    rw [HK.out]
    exact ⟨rfl, (Turn.refl (· = C) w).alloc _, HC.out.alloc _⟩
/-- The look-ups of a name, as the walk asks for them. -/
theorem Checks.looks {base C G F : Nat} {lv : Value} {k : Ck} {w : World} (h : Checks base C G F lv k w) {x : List UInt8} (hx : x.length ≤ maxLen) :
    (Instr.lookup 79 (.map (some G)) (.string ⟨x.toArray⟩) true).run Tryz.prog w = .ok (.tuple #[.int .i64 ((look k.gm x).getD 0), .bool (look k.gm x).isSome]) w ∧
    (Instr.lookup 79 (.map (some F)) (.string ⟨x.toArray⟩) true).run Tryz.prog w = .ok (.tuple #[.int .i64 ((look k.fm x).getD 0), .bool (look k.fm x).isSome]) w ∧
    (Instr.lookup 106 lv (.string ⟨x.toArray⟩) true).run Tryz.prog w = .ok (.tuple #[.int .i64 ((look k.lm x).getD 0), .bool (look k.lm x).isSome]) w := by
  refine ⟨h.gm.look wInt uMapI hx, h.fm.look wInt uMapI hx, ?_⟩
  rcases h.lm with ⟨rfl, hm⟩ | ⟨L, rfl, hL⟩
  · rw [hm]
    exact Maps.look_nil true strKeyed uMapT (zType w) (key_str hx)
  · exact hL.look wType uMapT hx
set_option maxHeartbeats 1000000 in
set_option maxRecDepth 100000 in
theorem ckknown_any {base C G F : Nat} {lv : Value} {k : Ck} {w : World} (h : Checks base C G F lv k w) (x : List UInt8) (hx : x.length ≤ maxLen) : Calls Tryz.prog 64 #[.pointer (some ⟨C, 0, none⟩), .string ⟨x.toArray⟩] w fun e w' => e = .returned (.bool (k.known x)) ∧ w' = w := by
  obtain ⟨gv, fv, hlt, _, _, c0, c1, c2, c3, c4, _, _, _, hf⟩ := h.open
  obtain ⟨l1, l2, l3⟩ := h.looks hx
  have HK := Lib.hid (show k.known x = ((look k.lm x).isSome || (look k.gm x).isSome || (look k.fm x).isSome) from rfl)
  clear h hf hx
  rw [HK.out]
  generalize (look k.lm x).isSome = b1 at l3
  generalize (look k.gm x).isSome = b2 at l1
  generalize (look k.fm x).isSome = b3 at l2
  generalize (look k.lm x).getD 0 = v1 at l3
  generalize (look k.gm x).getD 0 = v2 at l1
  generalize (look k.fm x).getD 0 = v3 at l2
  clear HK
  cases b1 <;> cases b2 <;> cases b3
  all_goals
    go_enter Tryz.func64, Tryz.ntmps64
    go_wp2_with (fail)
    go_ret
    exact ⟨rfl, rfl⟩
end Go.Proofs.YtaomlahphlemdaaGreatDoor

namespace Go.Proofs.YtaomlahphlemdaaGreatDoor
open Go.ChangeShapes Go.WideShapes Go.ChangeAt Go.RowKit
set_option linter.unusedVariables false

theorem gl_at {w : World} {S : Nat → Prop} {gs : List Gl} {gv : Value} (h : GlsAt w S gs gv) {j : Nat} (hj : j < gs.length) : ∃ g o cap, gv = .slice (some ⟨g, o, none⟩) gs.length cap ∧ g < w.heap.size ∧ gs.length ≤ cap ∧ gs.length ≤ 4611686018427387904 ∧ w.cell? ⟨g, o + j * 5 + 2, none⟩ = some (.int .i64 (gs.getD j noGl).size) := by
  rcases h with ⟨rfl, _⟩ | ⟨_, g, o, cap, rfl, _, hlt, h1, h2, h3⟩
  · simp at hj
  · refine ⟨g, o, cap, rfl, hlt, h1, h2, ?_⟩
    have := h3 j gs[j] (List.getElem?_eq_getElem hj) 2 (by decide)
    rw [show o + (5 * j + 2) = o + j * 5 + 2 by omega] at this
    rw [this, List.getD_eq_getElem?_getD, List.getElem?_eq_getElem hj]
    rfl
set_option maxHeartbeats 1000000 in
set_option maxRecDepth 100000 in
theorem variable_any {base C G F : Nat} {lv : Value} {k : Ck} {w : World} (h : Checks base C G F lv k w) (x : List UInt8) (hx : x.length ≤ maxLen) : Calls Tryz.prog 123 #[.pointer (some ⟨C, 0, none⟩), .string ⟨x.toArray⟩] w fun e w' => e = .returned (.int .i64 (k.variable x)) ∧ w' = w := by
  obtain ⟨gv, fv, hlt, hgl, _, c0, c1, c2, c3, c4, _, _, _, hf⟩ := h.open
  obtain ⟨l1, l2, l3⟩ := h.looks hx
  have HGI := Lib.hid (h.gi x)
  have HV := Lib.hid (show k.variable x = (match look k.lm x with | some t => t | none => match look k.gm x with | some i => if (k.glAt i).size = 0 then 1 else 0 | none => 0) from rfl)
  clear h hf hx l2
  cases h1 : look k.lm x with
  | some t =>
    rw [h1] at l3 HV
    rw [HV.out]
    simp only [Option.getD_some, Option.isSome_some] at l3
    clear h1 HV l1 HGI
    go_enter Tryz.func123, Tryz.ntmps123
    go_wp2_with (fail)
    go_ret
    exact ⟨rfl, rfl⟩
  | none =>
    rw [h1] at l3 HV
    simp only [Option.getD_none, Option.isSome_none] at l3
    clear h1
    cases h2 : look k.gm x with
    | none =>
      rw [h2] at l1 HV
      rw [HV.out]
      simp only [Option.getD_none, Option.isSome_none] at l1
      clear h2 HV HGI
      go_enter Tryz.func123, Tryz.ntmps123
      go_wp2_with (fail)
      go_ret
      exact ⟨rfl, rfl⟩
    | some i =>
      obtain ⟨j, rfl, hj⟩ := HGI.out i h2
      rw [h2] at l1 HV
      rw [HV.out]
      dsimp only
      simp only [Option.getD_some, Option.isSome_some] at l1
      obtain ⟨g, o, cap, rfl, hg, hcap, hmax, hs⟩ := gl_at hgl hj
      have HS := Lib.hid (show (k.glAt (j : Int)) = k.gs.getD j noGl by unfold Ck.glAt; rw [Int.toNat_natCast])
      rw [HS.out]
      clear h2 HV HGI hgl
      generalize (k.gs.getD j noGl).size = z at hs
      generalize k.gs.length = n at hj hcap hmax c0
      by_cases hz : z = 0
      · have hz1 : (z == 0) = true := by simpa using hz
        rw [if_pos hz]
        clear hz
        go_enter Tryz.func123, Tryz.ntmps123
        go_wp2_with (fail)
        go_ret
        exact ⟨rfl, rfl⟩
      · have hz1 : (z == 0) = false := by simpa using hz
        rw [if_neg hz]
        clear hz
        go_enter Tryz.func123, Tryz.ntmps123
        go_wp2_with (fail)
        go_ret
        exact ⟨rfl, rfl⟩
set_option maxHeartbeats 1000000 in
set_option maxRecDepth 100000 in
theorem array_any {base C G F : Nat} {lv : Value} {k : Ck} {w : World} (h : Checks base C G F lv k w) (x : List UInt8) (hx : x.length ≤ maxLen) : Calls Tryz.prog 124 #[.pointer (some ⟨C, 0, none⟩), .string ⟨x.toArray⟩] w fun e w' => e = .returned (.bool (k.array x)) ∧ w' = w := by
  obtain ⟨gv, fv, hlt, hgl, _, c0, c1, c2, c3, c4, _, _, _, hf⟩ := h.open
  obtain ⟨l1, l2, l3⟩ := h.looks hx
  have HGI := Lib.hid (h.gi x)
  have HV := Lib.hid (show k.array x = (match look k.gm x with | some i => decide (0 < (k.glAt i).size) | none => false) from rfl)
  clear h hf hx l2 l3
  cases h2 : look k.gm x with
  | none =>
    rw [h2] at l1 HV
    rw [HV.out]
    simp only [Option.getD_none, Option.isSome_none] at l1
    clear h2 HV HGI
    go_enter Tryz.func124, Tryz.ntmps124
    go_wp2_with (fail)
    go_ret
    exact ⟨rfl, rfl⟩
  | some i =>
    obtain ⟨j, rfl, hj⟩ := HGI.out i h2
    rw [h2] at l1 HV
    rw [HV.out]
    dsimp only
    simp only [Option.getD_some, Option.isSome_some] at l1
    obtain ⟨g, o, cap, rfl, hg, hcap, hmax, hs⟩ := gl_at hgl hj
    have HS := Lib.hid (show (k.glAt (j : Int)) = k.gs.getD j noGl by unfold Ck.glAt; rw [Int.toNat_natCast])
    rw [HS.out]
    clear h2 HV HGI hgl
    generalize (k.gs.getD j noGl).size = z at hs
    generalize k.gs.length = n at hj hcap hmax c0
    go_enter Tryz.func124, Tryz.ntmps124
    go_wp2_with (fail)
    go_ret
    exact ⟨rfl, rfl⟩
end Go.Proofs.YtaomlahphlemdaaGreatDoor

namespace Go.Proofs.YtaomlahphlemdaaGreatDoor
open Go.ChangeShapes Go.WideShapes Go.ChangeAt Go.RowKit
set_option linter.unusedVariables false

mutual
/-- No name is longer than a text may be. -/
def Ex.short : Ex → Bool
  | .mk _ _ _ _ name _ kids => decide (name.length ≤ 65536) && Ex.shorts kids
def Ex.shorts : List Ex → Bool
  | [] => true
  | e :: r => e.short && Ex.shorts r
end
theorem Ex.shorts_at : ∀ {l : List Ex}, Ex.shorts l = true → ∀ i (h : i < l.length), (l[i]).short = true
  | [], _, i, h => by simp at h
  | e :: r, hs, 0, h => by simp [Ex.shorts] at hs; exact hs.1
  | e :: r, hs, i + 1, h => by simp [Ex.shorts] at hs; exact Ex.shorts_at hs.2 i (by simpa using h)
/-- What expr promises of an expression. -/
def ExOk (ex : Ex) : Prop := ∀ (base C G F : Nat) (lv : Value) (k : Ck) (w : World) (cs : Array Value), Checks base C G F lv k w → ex.At w (· < base) cs →
  Calls Tryz.prog 122 #[.pointer (some ⟨C, 0, none⟩), .agg cs] w (CkPost base C G F lv (ckExpr ex k).2 (.int .i64 (ckExpr ex k).1) w)
theorem Checks.unless_eq {k : Ck} {b : Bool} {e l c : Int} : k.unless b e l c = if b then k else k.fail e l c := rfl
theorem At.alloc {ex : Ex} {w : World} {base : Nat} {cs : Array Value} (h : ex.At w (· < base) cs) (o : Obj) : ex.At (w.alloc o) (· < base) cs :=
  Ex.At.keep (fun q hq _ => hq) (fun q _ hl p => World.cell?_of_block (Below.heap_alloc w o q hl)) _ _ h
theorem At.turn {ex : Ex} {w w' : World} {base : Nat} {cs : Array Value} {X : Nat → Prop} (h : ex.At w (· < base) cs) (ht : Turn X w w') (hX : ∀ q, X q → base ≤ q) : ex.At w' (· < base) cs :=
  Ex.At.keep (fun q hq _ => hq) (fun q hq hl p => ht.cell hl (fun hx => by have := hX q hx; omega) p) _ _ h
/-- The seven cells of a box that a call has laid, also behind a call that turns the checker alone. -/
theorem box7 {w w' : World} {C : Nat} {kind line col num : Int} {name : List UInt8} {op : Int} {kv : Value} (hC : C < w.heap.size) (ht : Turn (· = C) (w.alloc (.cells (cells7 kind line col num name op kv) 47)) w') :
    w'.heap[w.heap.size]? = some (.cells (cells7 kind line col num name op kv) 47 (0, 0)) :=
  (ht.block w.heap.size (by simp) (by omega)).trans (alloc_at _ _ _ rfl)
set_option maxHeartbeats 1000000 in
set_option maxRecDepth 100000 in
theorem ckwant_any {ex : Ex} (hex : ExOk ex) {base C G F : Nat} {lv : Value} {k : Ck} {w : World} (cs : Array Value) (t : Int) (h : Checks base C G F lv k w) (hat : ex.At w (· < base) cs) :
    Calls Tryz.prog 125 #[.pointer (some ⟨C, 0, none⟩), .agg cs, .int .i64 t] w (CkPost base C G F lv (ckWant ex t k) (.tuple #[]) w) := by
  obtain ⟨kind, line, col, num, name, op, ka, kn, kc, rfl⟩ := hat.cells
  have HLC := Lib.hid (show ex.line = line ∧ ex.col = col by
    cases ex with
    | mk a b c d e f g =>
      unfold Ex.At at hat
      obtain ⟨_, _, kv, hcs, _⟩ := hat
      have h1 := congrArg (fun x => x[1]?) hcs
      have h2 := congrArg (fun x => x[2]?) hcs
      simp [cells7] at h1 h2
      exact ⟨h1.symm, h2.symm⟩)
  have HEX : Hid (ExOk ex) := Lib.hid hex
  have HC := Lib.hid h; have HAT := Lib.hid hat
  have hlt : C < w.heap.size := by obtain ⟨_, _, q, _⟩ := h.open; exact q
  clear h hat hex
  unfold cells7
  go_enter Tryz.func125, Tryz.ntmps125
  go_wp2_with (fail)
  refine (HEX.out _ _ _ _ _ _ _ _ (HC.out.alloc _) (At.alloc HAT.out _)).mono ?_
  rintro e w1 ⟨rfl, ht1, hc1⟩
  have hbx := box7 hlt ht1
  obtain ⟨d0, d1, d2, d3, d4, d5, d6⟩ := own7 hbx
  have hsz : w.heap.size < w1.heap.size := (Array.getElem?_eq_some_iff.1 hbx).1
  have HT1 := Lib.hid ht1; have HC1 := Lib.hid hc1
  have HW := Lib.hid (show ckWant ex t k = if ((ckExpr ex k).1 == t) then (ckExpr ex k).2 else (ckExpr ex k).2.fail 22 line col by unfold ckWant Ck.unless; rw [HLC.out.1, HLC.out.2])
  clear ht1 hc1 hbx
  generalize (ckExpr ex k).1 = v at HW
  generalize (ckExpr ex k).2 = k1 at HW HC1
  rcases Bool.eq_false_or_eq_true (v == t) with hb | hb
  · have hb' : (v != t) = false := by simp at hb ⊢; exact hb
    rw [hb] at HW
    go_wp2_with (fail)
    go_end0
    unfold CkPost
    rw [HW.out]
    exact ⟨rfl, ((Turn.refl (· = C) w).alloc _).trans HT1.out, HC1.out⟩
  · have hb' : (v != t) = true := by simp at hb ⊢; exact hb
    rw [hb] at HW
    go_wp2_with (fail)
    refine (ckfail_any HC1.out 22 line col).mono ?_
    rintro e w2 ⟨rfl, ht2, hc2⟩
    go_wp2_with (fail)
    go_end0
    unfold CkPost
    rw [HW.out]
    exact ⟨rfl, (((Turn.refl (· = C) w).alloc _).trans HT1.out).trans ht2, hc2⟩
theorem ckKids_snoc : ∀ (l : List Ex) (e : Ex) (t : Int) (k : Ck), ckKids (l ++ [e]) t k = ckWant e t (ckKids l t k)
  | [], e, t, k => by simp [ckKids, ckWant]
  | a :: l, e, t, k => by simp only [List.cons_append, ckKids]; exact ckKids_snoc l e t _
/-- The kids of an expression, as its cells hold them. -/
theorem at_kids_of {w : World} {S : Nat → Prop} {kind line col num : Int} {name : List UInt8} {op : Int} {kids : List Ex} {cs : Array Value} (h : (Ex.mk kind line col num name op kids).At w S cs) : InI64 op ∧ ∃ v, cs = cells7 kind line col num name op v ∧ KidsAt w S kids v := by
  unfold Ex.At at h
  obtain ⟨_, h2, v, rfl, _, h5⟩ := h
  exact ⟨h2, v, rfl, h5⟩
def kidAt (kids : List Ex) (i : Nat) (t : Int) (k : Ck) : Ck := ckKids (kids.take i) t k
theorem kidAt_succ {kids : List Ex} {i : Nat} (h : i < kids.length) (t : Int) (k : Ck) : kidAt kids (i + 1) t k = ckWant kids[i] t (kidAt kids i t k) := by
  unfold kidAt
  rw [List.take_succ_eq_append_getElem h, ckKids_snoc]
theorem kidAt_all (kids : List Ex) (t : Int) (k : Ck) : kidAt kids kids.length t k = ckKids kids t k := by unfold kidAt; rw [List.take_length]
theorem Turn.later {C : Nat} {w w' w'' : World} (h : Turn (· = C) w w') (k : Turn (· = C) w' w'') : Turn (· = C) w w'' := h.trans k
theorem kids_parts {w : World} {S : Nat → Prop} {kids : List Ex} {v : Value} (h : KidsAt w S kids v) : ∃ a cap, v = .slice a kids.length cap ∧ kids.length ≤ 4611686018427387904 ∧ (kids ≠ [] → ∃ g o, a = some ⟨g, o, none⟩ ∧ S g ∧ kids.length ≤ cap ∧ Ex.Row w S g o kids) := by
  rcases h with ⟨rfl, a, cap, rfl⟩ | ⟨hne, g, o, cap, rfl, hg, h1, h2, h3⟩
  · exact ⟨a, cap, rfl, by simp, fun q => absurd rfl q⟩
  · exact ⟨_, cap, rfl, h2, fun _ => ⟨g, o, rfl, hg, h1, h3⟩⟩
theorem Row.turn {kids : List Ex} {w w' : World} {base g o : Nat} {X : Nat → Prop} (hg : g < base) (hl : g < w.heap.size) (h : Ex.Row w (· < base) g o kids) (ht : Turn X w w') (hX : ∀ q, X q → base ≤ q) : Ex.Row w' (· < base) g o kids :=
  Ex.Row.keep (fun q hq _ => hq) (fun q hq hl p => ht.cell hl (fun hx => by have : base ≤ q := hX q hx; have : q < base := hq; omega) p) g hg hl o kids h
set_option maxHeartbeats 2000000 in
set_option maxRecDepth 100000 in
theorem ckkids_any {kind line col num : Int} {name : List UInt8} {op : Int} {kids : List Ex} (hex : ∀ i (h : i < kids.length), ExOk kids[i]) {base C G F : Nat} {lv : Value} {k : Ck} {w : World} (cs : Array Value) (many : Nat) (hm : many ≤ 4611686018427387904) (t : Int) (h : Checks base C G F lv k w) (hat : (Ex.mk kind line col num name op kids).At w (· < base) cs) :
    Calls Tryz.prog 137 #[.pointer (some ⟨C, 0, none⟩), .agg cs, .int .i64 many, .int .i64 t] w (CkPost base C G F lv (ckKids kids t (k.unless (kids.length == many) 40 line col)) (.tuple #[]) w) := by
  obtain ⟨_, v, rfl, hk⟩ := at_kids_of hat
  obtain ⟨a, cap, rfl, hmax, hrow⟩ := kids_parts hk
  have HEX := Lib.hid hex; have HROW := Lib.hid hrow
  have HC := Lib.hid h
  have hlt : C < w.heap.size := by obtain ⟨_, _, q, _⟩ := h.open; exact q
  have hlow := h.low.1
  clear h hat hex hk hrow
  unfold cells7
  have HK := Lib.hid (show k.unless (kids.length == many) 40 line col = if kids.length == many then k else k.fail 40 line col from rfl)
  generalize k.unless (kids.length == many) 40 line col = k1 at HK
  rcases Nat.decEq kids.length many with hq | hq
  · have q1 : ((kids.length : Int) != (many : Int)) = true := by simp; omega
    have HK1 := Lib.hid (show k.fail 40 line col = k1 by have := HK.out; rw [show (kids.length == many) = false by simpa using hq] at this; exact this.symm)
    clear HK hq
    go_enter Tryz.func137, Tryz.ntmps137
    go_wp2_with (fail)
    refine (ckfail_any (HC.out.alloc _) 40 line col).mono ?_
    rintro e w1 ⟨rfl, ht1, hc1⟩
    rw [HK1.out] at hc1
    clear q1
    have hbx := box7 hlt ht1
    obtain ⟨d0, d1, d2, d3, d4, d5, d6⟩ := own7 hbx
    have hsz : w.heap.size < w1.heap.size := (Array.getElem?_eq_some_iff.1 hbx).1
    have HT1 := Lib.hid (((Turn.refl (· = C) w).alloc _).trans ht1); have HC1 := Lib.hid hc1
    clear ht1 hc1 hbx
    go_wp2_with (fail)
    go_loopw [22] (fun i wr => ∃ j : Nat, j ≤ kids.length ∧ i = .int .i64 j ∧ Turn (· = C) w wr ∧ Checks base C G F lv (kidAt kids j t k1) wr) (fun i _ => kids.length - (intOf i).toNat)
    case atStart => exact ⟨0, Nat.zero_le _, rfl, HT1.out, HC1.out⟩
    case round =>
      obtain ⟨j, hj, rfl, htr, hcr⟩ := hrel
      have HTR := Lib.hid htr; have HCR := Lib.hid hcr
      by_cases hjl : j < kids.length
      · have hne : kids ≠ [] := by intro q; rw [q] at hjl; simp at hjl
        obtain ⟨g, o, rfl, hg, hcap, hrow⟩ := HROW.out hne
        have hgl : g < w.heap.size := by
          cases hq : kids with
          | nil => exact absurd hq hne
          | cons x r => rw [hq] at hrow; exact hrow.lt
        have hrow2 := Row.turn hg hgl hrow htr (fun q hq => by rw [hq]; exact hlow)
        obtain ⟨kd, ln, cl, nu, nm, opp, xa, xn, xc, hkat, r0, r1, r2, r3, r4, r5, r6⟩ := kid_cells hrow2 j hjl
        have hgr : g < wr.heap.size := Nat.lt_of_lt_of_le hgl htr.size
        have HKAT := Lib.hid hkat
        have HSUC := Lib.hid (kidAt_succ hjl t k1)
        have HE := Lib.hid (HEX.out j hjl)
        clear htr hcr hrow hrow2 hkat hne
        generalize hKJ : kids[j] = kj at HKAT HSUC HE
        clear hKJ
        go_wp2_with (fail)
        refine (ckwant_any HE.out _ t (HCR.out.alloc _) (At.alloc HKAT.out _)).mono ?_
        rintro e w2 ⟨rfl, ht2, hc2⟩
        have HT2 := Lib.hid ht2; have HC2 := Lib.hid hc2
        clear ht2 hc2
        go_wp2_with (fail)
        go_roundw
        case rel => exact ⟨j + 1, by omega, by go_num, (HTR.out.alloc _).trans HT2.out, by rw [HSUC.out]; exact HC2.out⟩
        case measure => simp [intOf]; omega
      · obtain rfl : j = kids.length := by omega
        have HALL := Lib.hid (kidAt_all kids t k1)
        clear htr hcr
        rw [HALL.out] at HCR
        go_wp2_with (fail)
        go_end0
        exact ⟨rfl, HTR.out, HCR.out⟩
  · have q1 : ((kids.length : Int) != (many : Int)) = false := by simp; omega
    have hk1 : k1 = k := by have := HK.out; rw [show (kids.length == many) = true by simpa using hq] at this; exact this
    subst hk1
    clear HK hq
    go_enter Tryz.func137, Tryz.ntmps137
    go_upto_region 3 with (fail)
    change Code.wp _ _ _ _ (w.alloc (.cells (cells7 kind line col num name op (.slice a kids.length cap)) 47))
    obtain ⟨w1, hw1⟩ : ∃ w1, w1 = w.alloc (.cells (cells7 kind line col num name op (.slice a kids.length cap)) 47) := ⟨_, rfl⟩
    rw [← hw1]
    have ht1 : Turn (· = C) (w.alloc (.cells (cells7 kind line col num name op (.slice a kids.length cap)) 47)) w1 := by rw [hw1]; exact Turn.refl _ _
    have hc1 : Checks base C G F lv k1 w1 := by rw [hw1]; exact HC.out.alloc _
    clear hw1 q1
    have hbx := box7 hlt ht1
    obtain ⟨d0, d1, d2, d3, d4, d5, d6⟩ := own7 hbx
    have hsz : w.heap.size < w1.heap.size := (Array.getElem?_eq_some_iff.1 hbx).1
    have HT1 := Lib.hid (((Turn.refl (· = C) w).alloc _).trans ht1); have HC1 := Lib.hid hc1
    clear ht1 hc1 hbx
    go_wp2_with (fail)
    go_loopw [22] (fun i wr => ∃ j : Nat, j ≤ kids.length ∧ i = .int .i64 j ∧ Turn (· = C) w wr ∧ Checks base C G F lv (kidAt kids j t k1) wr) (fun i _ => kids.length - (intOf i).toNat)
    case atStart => exact ⟨0, Nat.zero_le _, rfl, HT1.out, HC1.out⟩
    case round =>
      obtain ⟨j, hj, rfl, htr, hcr⟩ := hrel
      have HTR := Lib.hid htr; have HCR := Lib.hid hcr
      by_cases hjl : j < kids.length
      · have hne : kids ≠ [] := by intro q; rw [q] at hjl; simp at hjl
        obtain ⟨g, o, rfl, hg, hcap, hrow⟩ := HROW.out hne
        have hgl : g < w.heap.size := by
          cases hq : kids with
          | nil => exact absurd hq hne
          | cons x r => rw [hq] at hrow; exact hrow.lt
        have hrow2 := Row.turn hg hgl hrow htr (fun q hq => by rw [hq]; exact hlow)
        obtain ⟨kd, ln, cl, nu, nm, opp, xa, xn, xc, hkat, r0, r1, r2, r3, r4, r5, r6⟩ := kid_cells hrow2 j hjl
        have hgr : g < wr.heap.size := Nat.lt_of_lt_of_le hgl htr.size
        have HKAT := Lib.hid hkat
        have HSUC := Lib.hid (kidAt_succ hjl t k1)
        have HE := Lib.hid (HEX.out j hjl)
        clear htr hcr hrow hrow2 hkat hne
        generalize hKJ : kids[j] = kj at HKAT HSUC HE
        clear hKJ
        go_wp2_with (fail)
        refine (ckwant_any HE.out _ t (HCR.out.alloc _) (At.alloc HKAT.out _)).mono ?_
        rintro e w2 ⟨rfl, ht2, hc2⟩
        have HT2 := Lib.hid ht2; have HC2 := Lib.hid hc2
        clear ht2 hc2
        go_wp2_with (fail)
        go_roundw
        case rel => exact ⟨j + 1, by omega, by go_num, (HTR.out.alloc _).trans HT2.out, by rw [HSUC.out]; exact HC2.out⟩
        case measure => simp [intOf]; omega
      · obtain rfl : j = kids.length := by omega
        have HALL := Lib.hid (kidAt_all kids t k1)
        clear htr hcr
        rw [HALL.out] at HCR
        go_wp2_with (fail)
        go_end0
        exact ⟨rfl, HTR.out, HCR.out⟩
end Go.Proofs.YtaomlahphlemdaaGreatDoor

namespace Go.Proofs.YtaomlahphlemdaaGreatDoor
open Go.ChangeShapes Go.WideShapes Go.ChangeAt Go.RowKit
set_option linter.unusedVariables false

set_option maxHeartbeats 1000000 in
set_option maxRecDepth 100000 in
theorem value_any {line col num : Int} {name : List UInt8} {op : Int} {kids : List Ex} (hn : name.length ≤ 65536) {base C G F : Nat} {lv : Value} {k : Ck} {w : World} (cs : Array Value) (h : Checks base C G F lv k w) (hat : (Ex.mk 3 line col num name op kids).At w (· < base) cs) :
    Calls Tryz.prog 133 #[.pointer (some ⟨C, 0, none⟩), .agg cs] w (CkPost base C G F lv (k.unless (!(k.variable name == 0)) 21 line col) (.int .i64 (k.variable name)) w) := by
  obtain ⟨_, v, rfl, hk⟩ := at_kids_of hat
  obtain ⟨a, cap, rfl, _⟩ := kids_parts hk
  have hlen : name.length ≤ maxLen := by unfold maxLen; omega
  have HC := Lib.hid h; have HLEN := Lib.hid hlen
  clear h hat hk hn hlen
  unfold cells7
  go_enter Tryz.func133, Tryz.ntmps133
  go_wp2_with (fail)
  refine (variable_any (HC.out.alloc _) name HLEN.out).mono ?_
  rintro e w1 ⟨rfl, rfl⟩
  rcases Bool.eq_false_or_eq_true (k.variable name == 0) with hb | hb
  · have HV := Lib.hid (show k.unless (!(k.variable name == 0)) 21 line col = k.fail 21 line col by rw [hb]; rfl)
    go_wp2_with (fail)
    refine (ckfail_any (HC.out.alloc _) 21 line col).mono ?_
    rintro e w2 ⟨rfl, ht2, hc2⟩
    have HT2 := Lib.hid ht2; have HC2 := Lib.hid hc2
    clear ht2 hc2
    go_wp2_with (fail)
    go_ret
    exact ⟨rfl, ((Turn.refl (· = C) w).alloc _).trans HT2.out, by rw [HV.out]; exact HC2.out⟩
  · have HV := Lib.hid (show k.unless (!(k.variable name == 0)) 21 line col = k by rw [hb]; rfl)
    go_wp2_with (fail)
    go_ret
    exact ⟨rfl, (Turn.refl (· = C) w).alloc _, by rw [HV.out]; exact HC.out.alloc _⟩
set_option maxHeartbeats 1000000 in
set_option maxRecDepth 100000 in
theorem index_any {line col num : Int} {name : List UInt8} {op : Int} {kids : List Ex} (hn : name.length ≤ 65536) (hex : ∀ i (h : i < kids.length), ExOk kids[i]) {base C G F : Nat} {lv : Value} {k : Ck} {w : World} (cs : Array Value) (h : Checks base C G F lv k w) (hat : (Ex.mk 4 line col num name op kids).At w (· < base) cs) :
    Calls Tryz.prog 134 #[.pointer (some ⟨C, 0, none⟩), .agg cs] w (CkPost base C G F lv (ckKids kids 1 ((k.unless (k.array name) 21 line col).unless (kids.length == 1) 40 line col)) (.int .i64 1) w) := by
  have HAT := Lib.hid hat
  obtain ⟨_, v, rfl, hk⟩ := at_kids_of hat
  obtain ⟨a, cap, rfl, _⟩ := kids_parts hk
  have hlen : name.length ≤ maxLen := by unfold maxLen; omega
  have HC := Lib.hid h; have HLEN := Lib.hid hlen; have HEX := Lib.hid hex
  have hlt : C < w.heap.size := by obtain ⟨_, _, q, _⟩ := h.open; exact q
  have hlow := h.low.1
  clear h hat hk hn hlen hex
  unfold cells7
  go_enter Tryz.func134, Tryz.ntmps134
  go_wp2_with (fail)
  refine (array_any (HC.out.alloc _) name HLEN.out).mono ?_
  rintro e w1 ⟨rfl, rfl⟩
  rcases Bool.eq_false_or_eq_true (k.array name) with hb | hb
  · have HV := Lib.hid (show k.unless (k.array name) 21 line col = k by rw [hb]; rfl)
    go_wp2_with (fail)
    refine (ckkids_any HEX.out _ 1 (by omega) 1 (HC.out.alloc _) (At.alloc HAT.out _)).mono ?_
    rintro e w2 ⟨rfl, ht2, hc2⟩
    have HT2 := Lib.hid ht2; have HC2 := Lib.hid hc2
    clear ht2 hc2
    go_wp2_with (fail)
    go_ret
    exact ⟨rfl, ((Turn.refl (· = C) w).alloc _).trans HT2.out, by rw [HV.out]; exact HC2.out⟩
  · have HV := Lib.hid (show k.unless (k.array name) 21 line col = k.fail 21 line col by rw [hb]; rfl)
    go_wp2_with (fail)
    refine (ckfail_any (HC.out.alloc _) 21 line col).mono ?_
    rintro e w2 ⟨rfl, ht2, hc2⟩
    have hbx := box7 hlt ht2
    obtain ⟨d0, d1, d2, d3, d4, d5, d6⟩ := own7 hbx
    have hsz : w.heap.size < w2.heap.size := (Array.getElem?_eq_some_iff.1 hbx).1
    have HT2 := Lib.hid ht2; have HC2 := Lib.hid hc2
    have HAT2 := Lib.hid (At.turn (At.alloc HAT.out _) ht2 (fun q hq => by subst hq; exact hlow))
    clear ht2 hc2 hbx
    go_wp2_with (fail)
    refine (ckkids_any HEX.out _ 1 (by omega) 1 HC2.out HAT2.out).mono ?_
    rintro e w3 ⟨rfl, ht3, hc3⟩
    have HT3 := Lib.hid ht3; have HC3 := Lib.hid hc3
    clear ht3 hc3
    go_wp2_with (fail)
    go_ret
    exact ⟨rfl, (((Turn.refl (· = C) w).alloc _).trans HT2.out).trans HT3.out, by rw [HV.out]; exact HC3.out⟩
set_option maxHeartbeats 400000 in
theorem knownOp_any (o : Int) (w : World) : Calls Tryz.prog 30 #[.int .i64 o] w fun e w' => e = .returned (.bool (knownOp o)) ∧ w = w' := by
  unfold knownOp
  by_cases h1 : 1 ≤ o
  · go_enter Tryz.func30, Tryz.ntmps30
    go_wp2_with (fail)
    go_ret
    exact ⟨by simp [h1], rfl⟩
  · have h1' : decide (1 ≤ o) = false := by simpa using h1
    go_enter Tryz.func30, Tryz.ntmps30
    go_wp2_with (fail)
    go_ret
    exact ⟨by simp, rfl⟩
set_option maxHeartbeats 400000 in
theorem truthOp_any (o : Int) (w : World) : Calls Tryz.prog 32 #[.int .i64 o] w fun e w' => e = .returned (.bool (truthOp o)) ∧ w = w' := by
  unfold truthOp
  by_cases h1 : 11 ≤ o
  · go_enter Tryz.func32, Tryz.ntmps32
    go_wp2_with (fail)
    go_ret
    exact ⟨by simp [h1], rfl⟩
  · have h1' : decide (11 ≤ o) = false := by simpa using h1
    go_enter Tryz.func32, Tryz.ntmps32
    go_wp2_with (fail)
    go_ret
    exact ⟨by simp, rfl⟩
set_option maxHeartbeats 2000000 in
set_option maxRecDepth 100000 in
theorem both_ck {line col num : Int} {name : List UInt8} {op : Int} {kids : List Ex} (hex : ∀ i (h : i < kids.length), ExOk kids[i]) {base C G F : Nat} {lv : Value} {k : Ck} {w : World} (cs : Array Value) (h : Checks base C G F lv k w) (hat : (Ex.mk 6 line col num name op kids).At w (· < base) cs) :
    Calls Tryz.prog 136 #[.pointer (some ⟨C, 0, none⟩), .agg cs] w (CkPost base C G F lv ((ckKids kids 1 (k.unless (kids.length == 2) 40 line col)).unless (knownOp op && !(op == 15)) 40 line col) (.int .i64 (bothT op)) w) := by
  have HAT := Lib.hid hat
  obtain ⟨_, v, rfl, hk⟩ := at_kids_of hat
  obtain ⟨a, cap, rfl, _⟩ := kids_parts hk
  have HC := Lib.hid h; have HEX := Lib.hid hex
  have hlt : C < w.heap.size := by obtain ⟨_, _, q, _⟩ := h.open; exact q
  have hlow := h.low.1
  clear h hat hk hex
  unfold cells7
  go_enter Tryz.func136, Tryz.ntmps136
  go_wp2_with (fail)
  refine (ckkids_any HEX.out _ 2 (by omega) 1 (HC.out.alloc _) (At.alloc HAT.out _)).mono ?_
  rintro e w1 ⟨rfl, ht1, hc1⟩
  have hbx := box7 hlt ht1
  obtain ⟨d0, d1, d2, d3, d4, d5, d6⟩ := own7 hbx
  have hsz : w.heap.size < w1.heap.size := (Array.getElem?_eq_some_iff.1 hbx).1
  have HT1 := Lib.hid ht1; have HC1 := Lib.hid hc1
  clear ht1 hc1
  have HBX := Lib.hid hbx
  clear hbx
  by_cases h15 : op = 15
  · subst h15
    have HKO := Lib.hid (fun w => knownOp_any 15 w); have HTR := Lib.hid (fun w => truthOp_any 15 w)
    have hko : knownOp 15 = true := rfl
    have htr : truthOp 15 = true := rfl
    have HB := Lib.hid (show bothT 15 = 2 from rfl)
    go_wp2_with (fail)
    refine (HKO.out _).mono ?_
    rintro e w2 ⟨rfl, rfl⟩
    go_wp2_with (fail)
    refine (ckfail_any HC1.out 40 line col).mono ?_
    rintro e w3 ⟨rfl, ht3, hc3⟩
    obtain ⟨f0, f1, f2, f3, f4, f5, f6⟩ := own7 ((ht3.block _ hsz (by omega)).trans HBX.out)
    have hsz3 : w.heap.size < w3.heap.size := by have := ht3.size; omega
    have HT3 := Lib.hid ht3; have HC3 := Lib.hid hc3
    clear ht3 hc3
    go_wp2_with (fail)
    refine (HTR.out _).mono ?_
    rintro e w4 ⟨rfl, rfl⟩
    go_wp2_with (fail)
    go_ret
    exact ⟨by rw [HB.out]; rfl, (((Turn.refl (· = C) w).alloc _).trans HT1.out).trans HT3.out, HC3.out⟩
  · have h15 : (op == 15) = false := by simpa using h15
    have HKO := Lib.hid (fun w => knownOp_any op w); have HTR := Lib.hid (fun w => truthOp_any op w)
    rcases Bool.eq_false_or_eq_true (knownOp op) with hko | hko <;> rcases Bool.eq_false_or_eq_true (truthOp op) with htr | htr
    case inl.inl =>
      have HV := Lib.hid (show (knownOp op && !(op == 15)) = true by rw [hko, h15]; rfl)
      have HB := Lib.hid (show bothT op = 2 by unfold bothT; rw [htr]; rfl)
      go_wp2_with (fail)
      refine (HKO.out _).mono ?_
      rintro e w2 ⟨rfl, rfl⟩
      go_wp2_with (fail)
      refine (HTR.out _).mono ?_
      rintro e w2 ⟨rfl, rfl⟩
      go_wp2_with (fail)
      go_ret
      exact ⟨by rw [HB.out]; rfl, ((Turn.refl (· = C) w).alloc _).trans HT1.out, by rw [HV.out]; exact HC1.out⟩
    case inl.inr =>
      have HV := Lib.hid (show (knownOp op && !(op == 15)) = true by rw [hko, h15]; rfl)
      have HB := Lib.hid (show bothT op = 1 by unfold bothT; rw [htr]; rfl)
      go_wp2_with (fail)
      refine (HKO.out _).mono ?_
      rintro e w2 ⟨rfl, rfl⟩
      go_wp2_with (fail)
      refine (HTR.out _).mono ?_
      rintro e w2 ⟨rfl, rfl⟩
      go_wp2_with (fail)
      go_ret
      exact ⟨by rw [HB.out]; rfl, ((Turn.refl (· = C) w).alloc _).trans HT1.out, by rw [HV.out]; exact HC1.out⟩
    case inr.inl =>
      have HV := Lib.hid (show (knownOp op && !(op == 15)) = false by rw [hko, h15]; rfl)
      have HB := Lib.hid (show bothT op = 2 by unfold bothT; rw [htr]; rfl)
      go_wp2_with (fail)
      refine (HKO.out _).mono ?_
      rintro e w2 ⟨rfl, rfl⟩
      go_wp2_with (fail)
      refine (ckfail_any HC1.out 40 line col).mono ?_
      rintro e w3 ⟨rfl, ht3, hc3⟩
      obtain ⟨f0, f1, f2, f3, f4, f5, f6⟩ := own7 ((ht3.block _ hsz (by omega)).trans HBX.out)
      have hsz3 : w.heap.size < w3.heap.size := by have := ht3.size; omega
      have HT3 := Lib.hid ht3; have HC3 := Lib.hid hc3
      clear ht3 hc3
      go_wp2_with (fail)
      refine (HTR.out _).mono ?_
      rintro e w4 ⟨rfl, rfl⟩
      go_wp2_with (fail)
      go_ret
      exact ⟨by rw [HB.out]; rfl, (((Turn.refl (· = C) w).alloc _).trans HT1.out).trans HT3.out, by rw [HV.out]; exact HC3.out⟩
    case inr.inr =>
      have HV := Lib.hid (show (knownOp op && !(op == 15)) = false by rw [hko, h15]; rfl)
      have HB := Lib.hid (show bothT op = 1 by unfold bothT; rw [htr]; rfl)
      go_wp2_with (fail)
      refine (HKO.out _).mono ?_
      rintro e w2 ⟨rfl, rfl⟩
      go_wp2_with (fail)
      refine (ckfail_any HC1.out 40 line col).mono ?_
      rintro e w3 ⟨rfl, ht3, hc3⟩
      obtain ⟨f0, f1, f2, f3, f4, f5, f6⟩ := own7 ((ht3.block _ hsz (by omega)).trans HBX.out)
      have hsz3 : w.heap.size < w3.heap.size := by have := ht3.size; omega
      have HT3 := Lib.hid ht3; have HC3 := Lib.hid hc3
      clear ht3 hc3
      go_wp2_with (fail)
      refine (HTR.out _).mono ?_
      rintro e w4 ⟨rfl, rfl⟩
      go_wp2_with (fail)
      go_ret
      exact ⟨by rw [HB.out]; rfl, (((Turn.refl (· = C) w).alloc _).trans HT1.out).trans HT3.out, by rw [HV.out]; exact HC3.out⟩
end Go.Proofs.YtaomlahphlemdaaGreatDoor

namespace Go.Proofs.YtaomlahphlemdaaGreatDoor
open Go.ChangeShapes Go.WideShapes Go.ChangeAt Go.RowKit
set_option linter.unusedVariables false

theorem fn_at {w : World} {S : Nat → Prop} {fs : List Fn} {fv : Value} (h : FnsAt w S fs fv) {j : Nat} (hj : j < fs.length) : ∃ g o cap pa pc, fv = .slice (some ⟨g, o, none⟩) fs.length cap ∧ g < w.heap.size ∧ fs.length ≤ cap ∧ fs.length ≤ 4611686018427387904 ∧ w.cell? ⟨g, o + j * 5 + 1, none⟩ = some (.slice pa (fs.getD j noFn).params.length pc) := by
  rcases h with ⟨rfl, _⟩ | ⟨_, g, o, cap, rfl, _, hlt, h1, h2, h3⟩
  · simp at hj
  · obtain ⟨cs, ⟨pv, bv, rfl, hp, _⟩, hc⟩ := h3 j fs[j] (List.getElem?_eq_getElem hj)
    have := hc 1 (by decide)
    rw [show o + (5 * j + 1) = o + j * 5 + 1 by omega] at this
    rcases hp with ⟨hp, a, cap', rfl⟩ | ⟨_, g', o', cap', rfl, _⟩
    · refine ⟨g, o, cap, a, cap', rfl, hlt, h1, h2, ?_⟩
      rw [this, List.getD_eq_getElem?_getD, List.getElem?_eq_getElem hj]
      simp [cellsF, hp]
    · refine ⟨g, o, cap, some ⟨g', o', none⟩, cap', rfl, hlt, h1, h2, ?_⟩
      rw [this, List.getD_eq_getElem?_getD, List.getElem?_eq_getElem hj]
      rfl
theorem Turn.drew {X : Nat → Prop} {w w' : World} (h : Turn X w w') : Turn X w w'.drew := ⟨h.os, h.tape, h.output, h.size, h.block⟩
theorem Checks.drew {base C G F : Nat} {lv : Value} {k : Ck} {w : World} (h : Checks base C G F lv k w) : Checks base C G F lv k w.drew := h.keep (X := fun _ => False) (Turn.refl _ w).drew (fun _ q => q.elim)
set_option maxHeartbeats 2000000 in
set_option maxRecDepth 100000 in
theorem call_none {line col num : Int} {name : List UInt8} {op : Int} {kids : List Ex} (hn : name.length ≤ 65536) {base C G F : Nat} {lv : Value} {k : Ck} {w : World} (cs : Array Value) (h : Checks base C G F lv k w) (hat : (Ex.mk 5 line col num name op kids).At w (· < base) cs) (hl : look k.fm name = none) :
    Calls Tryz.prog 135 #[.pointer (some ⟨C, 0, none⟩), .agg cs] w (CkPost base C G F lv (k.fail 21 line col) (.int .i64 0) w) := by
  obtain ⟨_, v, rfl, hk⟩ := at_kids_of hat
  obtain ⟨a, cap, rfl, _⟩ := kids_parts hk
  have hlen : name.length ≤ maxLen := by unfold maxLen; omega
  obtain ⟨gv, fv, hlt, _, _, c0, c1, c2, c3, c4, _, _, _, _⟩ := (h.alloc (.cells (cells7 5 line col num name op (.slice a kids.length cap)) 47)).open
  obtain ⟨_, l2, _⟩ := (h.alloc (.cells (cells7 5 line col num name op (.slice a kids.length cap)) 47)).looks hlen
  rw [hl] at l2
  simp only [Option.getD_none, Option.isSome_none] at l2
  obtain ⟨e0, e1, e2, e3, e4, e5, e6⟩ := own7 (alloc_at w (.cells (cells7 5 line col num name op (.slice a kids.length cap)) 47) _ rfl)
  have hs1 : w.heap.size < (w.alloc (.cells (cells7 5 line col num name op (.slice a kids.length cap)) 47)).heap.size := by simp
  have HC := Lib.hid (h.alloc (.cells (cells7 5 line col num name op (.slice a kids.length cap)) 47))
  have HT := Lib.hid ((Turn.refl (· = C) w).alloc (.cells (cells7 5 line col num name op (.slice a kids.length cap)) 47))
  have HL2 := Lib.hid (show (Instr.lookup 79 (.map (some F)) (.string ⟨name.toArray⟩) true).run Tryz.prog (w.alloc (.cells (cells7 5 line col num name op (.slice a kids.length cap)) 47)).drew = .ok (.tuple #[.int .i64 0, .bool false]) (w.alloc (.cells (cells7 5 line col num name op (.slice a kids.length cap)) 47)).drew by
    have := ((h.alloc (.cells (cells7 5 line col num name op (.slice a kids.length cap)) 47)).fm.keep (w' := (w.alloc (.cells (cells7 5 line col num name op (.slice a kids.length cap)) 47)).drew) rfl).look wInt uMapI hlen
    rw [hl] at this
    exact this)
  clear h hat hk hn hlen hl
  unfold cells7
  go_enter Tryz.func135, Tryz.ntmps135
  go_upto_region 1 with (fail)
  change Code.wp _ _ _ _ (w.alloc (.cells (cells7 5 line col num name op (.slice a kids.length cap)) 47))
  generalize w.alloc (.cells (cells7 5 line col num name op (.slice a kids.length cap)) 47) = W at *
  have l2' : (Instr.lookup 79 (.map (some F)) (.string ⟨name.toArray⟩) true).run Tryz.prog W.drew = .ok (.tuple #[.int .i64 0, .bool false]) W.drew := HL2.out
  clear l2
  go_region
  go_wp2_with (fail)
  refine (ckfail_any HC.out.drew 21 line col).mono ?_
  rintro e w2 ⟨rfl, ht2, hc2⟩
  have HT2 := Lib.hid ht2; have HC2 := Lib.hid hc2
  clear ht2 hc2
  go_wp2_with (fail)
  go_ret
  exact ⟨rfl, HT.out.drew.trans HT2.out, HC2.out⟩
set_option maxHeartbeats 4000000 in
set_option maxRecDepth 100000 in
theorem call_some {line col num : Int} {name : List UInt8} {op : Int} {kids : List Ex} (hn : name.length ≤ 65536) (hex : ∀ i (h : i < kids.length), ExOk kids[i]) {base C G F : Nat} {lv : Value} {k : Ck} {w : World} (cs : Array Value) (h : Checks base C G F lv k w) (hat : (Ex.mk 5 line col num name op kids).At w (· < base) cs) (i : Int) (hl : look k.fm name = some i) :
    Calls Tryz.prog 135 #[.pointer (some ⟨C, 0, none⟩), .agg cs] w (CkPost base C G F lv (ckKids kids 1 (k.unless (kids.length == (k.fnAt i).params.length) 23 line col)) (.int .i64 1) w) := by
  obtain ⟨j, rfl, hj⟩ := h.fi name i hl
  have HAT := Lib.hid hat
  obtain ⟨_, v, rfl, hk⟩ := at_kids_of hat
  obtain ⟨a, cap, rfl, hmx, _⟩ := kids_parts hk
  have hlen : name.length ≤ maxLen := by unfold maxLen; omega
  have hC := h.alloc (.cells (cells7 5 line col num name op (.slice a kids.length cap)) 47)
  have hT := (Turn.refl (· = C) w).alloc (.cells (cells7 5 line col num name op (.slice a kids.length cap)) 47)
  have hA := At.alloc HAT.out (.cells (cells7 5 line col num name op (.slice a kids.length cap)) 47)
  have hB := alloc_at w (.cells (cells7 5 line col num name op (.slice a kids.length cap)) 47) _ rfl
  have hlow := h.low.1
  have hlt0 : C < w.heap.size := by obtain ⟨_, _, q, _⟩ := h.open; exact q
  have HEX := Lib.hid hex
  clear h hat hk hn hex HAT
  unfold cells7
  go_enter Tryz.func135, Tryz.ntmps135
  go_upto_region 1 with (fail)
  change Code.wp _ _ _ _ (w.alloc (.cells (cells7 5 line col num name op (.slice a kids.length cap)) 47))
  generalize hWW : w.alloc (.cells (cells7 5 line col num name op (.slice a kids.length cap)) 47) = W at *
  clear hWW
  obtain ⟨gv, fv, hlt, _, hfn, c0, c1, c2, c3, c4, _, _, _, _⟩ := hC.open
  obtain ⟨e0, e1, e2, e3, e4, e5, e6⟩ := own7 hB
  have hs1 : w.heap.size < W.heap.size := (Array.getElem?_eq_some_iff.1 hB).1
  obtain ⟨fg, fo, fcap, pa, pc, rfl, hfg, hfcap, hfmax, hpar⟩ := fn_at hfn hj
  have l2' := (hC.fm.keep (w' := W.drew) rfl).look wInt uMapI hlen
  rw [hl] at l2'
  simp only [Option.getD_some, Option.isSome_some] at l2'
  have HFA := Lib.hid (show k.fnAt (j : Int) = k.fs.getD j noFn by unfold Ck.fnAt; rw [Int.toNat_natCast])
  have HC := Lib.hid hC; have HT := Lib.hid hT; have HA := Lib.hid hA; have HB := Lib.hid hB
  clear hC hT hA hB hfn hl hlen
  go_region
  go_upto_region 5 with (fail)
  have HSELF := Lib.hid (fun k1 : Ck => show k1.unless (kids.length == kids.length) 40 line col = k1 by simp [Ck.unless])
  rcases Nat.decEq kids.length (k.fs.getD j noFn).params.length with hq | hq
  · have HV := Lib.hid (show k.unless (kids.length == (k.fnAt (j : Int)).params.length) 23 line col = k.fail 23 line col by
      rw [HFA.out]; unfold Ck.unless; rw [if_neg (by simpa using hq)])
    generalize (k.fs.getD j noFn).params.length = pn at *
    have q1 : ((kids.length : Int) != (pn : Int)) = true := by simp; omega
    clear hq
    go_region
    all_goals go_wp2_with (fail)
    refine (ckfail_any HC.out.drew.drew 23 line col).mono ?_
    rintro e w2 ⟨rfl, ht2, hc2⟩
    have hbx : w2.heap[w.heap.size]? = some (.cells (cells7 5 line col num name op (.slice a kids.length cap)) 47 (0, 0)) := (ht2.block w.heap.size hs1 (by omega)).trans HB.out
    obtain ⟨d0, d1, d2, d3, d4, d5, d6⟩ := own7 hbx
    have hsz : w.heap.size < w2.heap.size := (Array.getElem?_eq_some_iff.1 hbx).1
    have HT2 := Lib.hid ht2; have HC2 := Lib.hid hc2
    have HA2 := Lib.hid (At.turn (At.turn HA.out (Turn.refl (· = C) W).drew.drew (fun q hq => by subst hq; exact hlow)) ht2 (fun q hq => by subst hq; exact hlow))
    clear ht2 hc2 hbx
    go_wp2_with (fail)
    refine (ckkids_any HEX.out _ kids.length hmx 1 HC2.out HA2.out).mono ?_
    rintro e w3 ⟨rfl, ht3, hc3⟩
    have HT3 := Lib.hid ht3; have HC3 := Lib.hid hc3
    clear ht3 hc3
    go_wp2_with (fail)
    go_ret
    exact ⟨rfl, (HT.out.drew.drew.trans HT2.out).trans HT3.out, by rw [HV.out]; have := HC3.out; rw [HSELF.out] at this; exact this⟩
  · have HV := Lib.hid (show k.unless (kids.length == (k.fnAt (j : Int)).params.length) 23 line col = k by
      rw [HFA.out]; unfold Ck.unless; rw [if_pos (by simpa using hq)])
    generalize (k.fs.getD j noFn).params.length = pn at *
    have q1 : ((kids.length : Int) != (pn : Int)) = false := by simp; omega
    clear hq
    go_region
    all_goals go_wp2_with (fail)
    refine (ckkids_any HEX.out _ kids.length hmx 1 HC.out.drew.drew (At.turn HA.out (Turn.refl (· = C) W).drew.drew (fun q hq => by subst hq; exact hlow))).mono ?_
    rintro e w3 ⟨rfl, ht3, hc3⟩
    have HT3 := Lib.hid ht3; have HC3 := Lib.hid hc3
    clear ht3 hc3
    go_wp2_with (fail)
    go_ret
    exact ⟨rfl, HT.out.drew.drew.trans HT3.out, by rw [HV.out]; have := HC3.out; rw [HSELF.out] at this; exact this⟩

/-- What expr does of one kind: the theorems below, kind by kind. -/
def ExAt (kind : Int) : Prop := ∀ (line col num : Int) (name : List UInt8) (op : Int) (kids : List Ex), name.length ≤ 65536 → (∀ i (h : i < kids.length), ExOk kids[i]) → ExOk (.mk kind line col num name op kids)
set_option maxHeartbeats 1000000 in
set_option maxRecDepth 100000 in
theorem expr_num : ExAt 1 := by
  intro line col num name op kids hn hex base C G F lv k w cs h hat
  have HE := Lib.hid (show ckExpr (.mk 1 line col num name op kids) k = (1, k) by simp [ckExpr])
  rw [HE.out]
  dsimp only
  have HAT := Lib.hid hat
  obtain ⟨_, v, rfl, hk⟩ := at_kids_of hat
  obtain ⟨a, cap, rfl, _⟩ := kids_parts hk
  have HC := Lib.hid h; have HEX := Lib.hid hex; have HN := Lib.hid hn
  clear h hat hk hex hn HE
  unfold cells7
  go_enter Tryz.func122, Tryz.ntmps122
  go_wp2_with (fail)
  go_ret
  exact ⟨rfl, (Turn.refl (· = C) w).alloc _, HC.out.alloc _⟩
set_option maxHeartbeats 1000000 in
set_option maxRecDepth 100000 in
theorem expr_truth : ExAt 2 := by
  intro line col num name op kids hn hex base C G F lv k w cs h hat
  have HE := Lib.hid (show ckExpr (.mk 2 line col num name op kids) k = (2, k) by simp [ckExpr])
  rw [HE.out]
  dsimp only
  have HAT := Lib.hid hat
  obtain ⟨_, v, rfl, hk⟩ := at_kids_of hat
  obtain ⟨a, cap, rfl, _⟩ := kids_parts hk
  have HC := Lib.hid h; have HEX := Lib.hid hex; have HN := Lib.hid hn
  clear h hat hk hex hn HE
  unfold cells7
  go_enter Tryz.func122, Tryz.ntmps122
  go_wp2_with (fail)
  go_ret
  exact ⟨rfl, (Turn.refl (· = C) w).alloc _, HC.out.alloc _⟩
set_option maxHeartbeats 1000000 in
set_option maxRecDepth 100000 in
theorem expr_var : ExAt 3 := by
  intro line col num name op kids hn hex base C G F lv k w cs h hat
  have HE := Lib.hid (show ckExpr (.mk 3 line col num name op kids) k = (k.variable name, k.unless (!(k.variable name == 0)) 21 line col) by simp [ckExpr])
  rw [HE.out]
  dsimp only
  have HAT := Lib.hid hat
  obtain ⟨_, v, rfl, hk⟩ := at_kids_of hat
  obtain ⟨a, cap, rfl, _⟩ := kids_parts hk
  have HC := Lib.hid h; have HEX := Lib.hid hex; have HN := Lib.hid hn
  clear h hat hk hex hn HE
  unfold cells7
  go_enter Tryz.func122, Tryz.ntmps122
  go_wp2_with (fail)
  refine (value_any HN.out _ (HC.out.alloc _) (At.alloc HAT.out _)).mono ?_
  rintro e w2 ⟨rfl, ht2, hc2⟩
  have HT2 := Lib.hid ht2; have HC2 := Lib.hid hc2
  clear ht2 hc2
  go_wp2_with (fail)
  go_ret
  exact ⟨rfl, ((Turn.refl (· = C) w).alloc _).trans HT2.out, HC2.out⟩
set_option maxHeartbeats 1000000 in
set_option maxRecDepth 100000 in
theorem expr_index : ExAt 4 := by
  intro line col num name op kids hn hex base C G F lv k w cs h hat
  have HE := Lib.hid (show ckExpr (.mk 4 line col num name op kids) k = (1, ckKids kids 1 ((k.unless (k.array name) 21 line col).unless (kids.length == 1) 40 line col)) by simp [ckExpr])
  rw [HE.out]
  dsimp only
  have HAT := Lib.hid hat
  obtain ⟨_, v, rfl, hk⟩ := at_kids_of hat
  obtain ⟨a, cap, rfl, _⟩ := kids_parts hk
  have HC := Lib.hid h; have HEX := Lib.hid hex; have HN := Lib.hid hn
  clear h hat hk hex hn HE
  unfold cells7
  go_enter Tryz.func122, Tryz.ntmps122
  go_wp2_with (fail)
  refine (index_any HN.out HEX.out _ (HC.out.alloc _) (At.alloc HAT.out _)).mono ?_
  rintro e w2 ⟨rfl, ht2, hc2⟩
  have HT2 := Lib.hid ht2; have HC2 := Lib.hid hc2
  clear ht2 hc2
  go_wp2_with (fail)
  go_ret
  exact ⟨rfl, ((Turn.refl (· = C) w).alloc _).trans HT2.out, HC2.out⟩
set_option maxHeartbeats 1000000 in
set_option maxRecDepth 100000 in
theorem expr_both : ExAt 6 := by
  intro line col num name op kids hn hex base C G F lv k w cs h hat
  have HE := Lib.hid (show ckExpr (.mk 6 line col num name op kids) k = (bothT op, (ckKids kids 1 (k.unless (kids.length == 2) 40 line col)).unless (knownOp op && !(op == 15)) 40 line col) by simp [ckExpr])
  rw [HE.out]
  dsimp only
  have HAT := Lib.hid hat
  obtain ⟨_, v, rfl, hk⟩ := at_kids_of hat
  obtain ⟨a, cap, rfl, _⟩ := kids_parts hk
  have HC := Lib.hid h; have HEX := Lib.hid hex; have HN := Lib.hid hn
  clear h hat hk hex hn HE
  unfold cells7
  go_enter Tryz.func122, Tryz.ntmps122
  go_wp2_with (fail)
  refine (both_ck HEX.out _ (HC.out.alloc _) (At.alloc HAT.out _)).mono ?_
  rintro e w2 ⟨rfl, ht2, hc2⟩
  have HT2 := Lib.hid ht2; have HC2 := Lib.hid hc2
  clear ht2 hc2
  go_wp2_with (fail)
  go_ret
  exact ⟨rfl, ((Turn.refl (· = C) w).alloc _).trans HT2.out, HC2.out⟩
set_option maxHeartbeats 1000000 in
set_option maxRecDepth 100000 in
theorem expr_and : ExAt 7 := by
  intro line col num name op kids hn hex base C G F lv k w cs h hat
  have HE := Lib.hid (show ckExpr (.mk 7 line col num name op kids) k = (2, ckKids kids 2 (k.unless (kids.length == 2) 40 line col)) by simp [ckExpr])
  rw [HE.out]
  dsimp only
  have HAT := Lib.hid hat
  obtain ⟨_, v, rfl, hk⟩ := at_kids_of hat
  obtain ⟨a, cap, rfl, _⟩ := kids_parts hk
  have HC := Lib.hid h; have HEX := Lib.hid hex; have HN := Lib.hid hn
  clear h hat hk hex hn HE
  unfold cells7
  go_enter Tryz.func122, Tryz.ntmps122
  go_wp2_with (fail)
  refine (ckkids_any HEX.out _ 2 (by omega) 2 (HC.out.alloc _) (At.alloc HAT.out _)).mono ?_
  rintro e w2 ⟨rfl, ht2, hc2⟩
  have HT2 := Lib.hid ht2; have HC2 := Lib.hid hc2
  clear ht2 hc2
  go_wp2_with (fail)
  go_ret
  exact ⟨rfl, ((Turn.refl (· = C) w).alloc _).trans HT2.out, HC2.out⟩
set_option maxHeartbeats 1000000 in
set_option maxRecDepth 100000 in
theorem expr_or : ExAt 8 := by
  intro line col num name op kids hn hex base C G F lv k w cs h hat
  have HE := Lib.hid (show ckExpr (.mk 8 line col num name op kids) k = (2, ckKids kids 2 (k.unless (kids.length == 2) 40 line col)) by simp [ckExpr])
  rw [HE.out]
  dsimp only
  have HAT := Lib.hid hat
  obtain ⟨_, v, rfl, hk⟩ := at_kids_of hat
  obtain ⟨a, cap, rfl, _⟩ := kids_parts hk
  have HC := Lib.hid h; have HEX := Lib.hid hex; have HN := Lib.hid hn
  clear h hat hk hex hn HE
  unfold cells7
  go_enter Tryz.func122, Tryz.ntmps122
  go_wp2_with (fail)
  refine (ckkids_any HEX.out _ 2 (by omega) 2 (HC.out.alloc _) (At.alloc HAT.out _)).mono ?_
  rintro e w2 ⟨rfl, ht2, hc2⟩
  have HT2 := Lib.hid ht2; have HC2 := Lib.hid hc2
  clear ht2 hc2
  go_wp2_with (fail)
  go_ret
  exact ⟨rfl, ((Turn.refl (· = C) w).alloc _).trans HT2.out, HC2.out⟩
set_option maxHeartbeats 1000000 in
set_option maxRecDepth 100000 in
theorem expr_not : ExAt 9 := by
  intro line col num name op kids hn hex base C G F lv k w cs h hat
  have HE := Lib.hid (show ckExpr (.mk 9 line col num name op kids) k = (2, ckKids kids 2 (k.unless (kids.length == 1) 40 line col)) by simp [ckExpr])
  rw [HE.out]
  dsimp only
  have HAT := Lib.hid hat
  obtain ⟨_, v, rfl, hk⟩ := at_kids_of hat
  obtain ⟨a, cap, rfl, _⟩ := kids_parts hk
  have HC := Lib.hid h; have HEX := Lib.hid hex; have HN := Lib.hid hn
  clear h hat hk hex hn HE
  unfold cells7
  go_enter Tryz.func122, Tryz.ntmps122
  go_wp2_with (fail)
  refine (ckkids_any HEX.out _ 1 (by omega) 2 (HC.out.alloc _) (At.alloc HAT.out _)).mono ?_
  rintro e w2 ⟨rfl, ht2, hc2⟩
  have HT2 := Lib.hid ht2; have HC2 := Lib.hid hc2
  clear ht2 hc2
  go_wp2_with (fail)
  go_ret
  exact ⟨rfl, ((Turn.refl (· = C) w).alloc _).trans HT2.out, HC2.out⟩
set_option maxHeartbeats 1000000 in
set_option maxRecDepth 100000 in
theorem expr_call : ExAt 5 := by
  intro line col num name op kids hn hex base C G F lv k w cs h hat
  have HAT := Lib.hid hat
  obtain ⟨_, v, rfl, hk⟩ := at_kids_of hat
  obtain ⟨a, cap, rfl, _⟩ := kids_parts hk
  have HC := Lib.hid h; have HEX := Lib.hid hex; have HN := Lib.hid hn
  clear h hat hk hex hn
  cases hl : look k.fm name with
  | none =>
    have HE := Lib.hid (show ckExpr (.mk 5 line col num name op kids) k = (0, k.fail 21 line col) by simp [ckExpr, hl])
    have HL := Lib.hid hl
    rw [HE.out]
    dsimp only
    clear hl HE
    unfold cells7
    go_enter Tryz.func122, Tryz.ntmps122
    go_wp2_with (fail)
    refine (call_none HN.out _ (HC.out.alloc _) (At.alloc HAT.out _) HL.out).mono ?_
    rintro e w2 ⟨rfl, ht2, hc2⟩
    have HT2 := Lib.hid ht2; have HC2 := Lib.hid hc2
    clear ht2 hc2
    go_wp2_with (fail)
    go_ret
    exact ⟨rfl, ((Turn.refl (· = C) w).alloc _).trans HT2.out, HC2.out⟩
  | some i =>
    have HE := Lib.hid (show ckExpr (.mk 5 line col num name op kids) k = (1, ckKids kids 1 (k.unless (kids.length == (k.fnAt i).params.length) 23 line col)) by simp [ckExpr, hl])
    have HL := Lib.hid hl
    rw [HE.out]
    dsimp only
    clear hl HE
    unfold cells7
    go_enter Tryz.func122, Tryz.ntmps122
    go_wp2_with (fail)
    refine (call_some HN.out HEX.out _ (HC.out.alloc _) (At.alloc HAT.out _) i HL.out).mono ?_
    rintro e w2 ⟨rfl, ht2, hc2⟩
    have HT2 := Lib.hid ht2; have HC2 := Lib.hid hc2
    clear ht2 hc2
    go_wp2_with (fail)
    go_ret
    exact ⟨rfl, ((Turn.refl (· = C) w).alloc _).trans HT2.out, HC2.out⟩
set_option maxHeartbeats 1000000 in
set_option maxRecDepth 100000 in
theorem expr_else (kind : Int) (h1 : kind ≠ 1) (h2 : kind ≠ 2) (h3 : kind ≠ 3) (h4 : kind ≠ 4) (h5 : kind ≠ 5) (h6 : kind ≠ 6) (h7 : kind ≠ 7) (h8 : kind ≠ 8) (h9 : kind ≠ 9) : ExAt kind := by
  intro line col num name op kids hn hex base C G F lv k w cs h hat
  have HE := Lib.hid (show ckExpr (.mk kind line col num name op kids) k = (0, k.fail 40 line col) by simp [ckExpr, h1, h2, h3, h4, h5, h6, h7, h8, h9])
  rw [HE.out]
  dsimp only
  obtain ⟨_, v, rfl, hk⟩ := at_kids_of hat
  obtain ⟨a, cap, rfl, _⟩ := kids_parts hk
  have HC := Lib.hid h
  have b1 : (kind == 1) = false := by simpa using h1
  have b2 : (kind == 2) = false := by simpa using h2
  have b3 : (kind == 3) = false := by simpa using h3
  have b4 : (kind == 4) = false := by simpa using h4
  have b5 : (kind == 5) = false := by simpa using h5
  have b6 : (kind == 6) = false := by simpa using h6
  have b7 : (kind == 7) = false := by simpa using h7
  have b8 : (kind == 8) = false := by simpa using h8
  have b9 : (kind == 9) = false := by simpa using h9
  clear h hat hk hex hn HE h1 h2 h3 h4 h5 h6 h7 h8 h9
  unfold cells7
  go_enter Tryz.func122, Tryz.ntmps122
  go_wp2_with (fail)
  refine (ckfail_any (HC.out.alloc _) 40 line col).mono ?_
  rintro e w2 ⟨rfl, ht2, hc2⟩
  have HT2 := Lib.hid ht2; have HC2 := Lib.hid hc2
  clear ht2 hc2
  go_wp2_with (fail)
  go_ret
  exact ⟨rfl, ((Turn.refl (· = C) w).alloc _).trans HT2.out, HC2.out⟩
theorem expr_kind (kind : Int) : ExAt kind := by
  by_cases h1 : kind = 1
  · subst h1; exact expr_num
  by_cases h2 : kind = 2
  · subst h2; exact expr_truth
  by_cases h3 : kind = 3
  · subst h3; exact expr_var
  by_cases h4 : kind = 4
  · subst h4; exact expr_index
  by_cases h5 : kind = 5
  · subst h5; exact expr_call
  by_cases h6 : kind = 6
  · subst h6; exact expr_both
  by_cases h7 : kind = 7
  · subst h7; exact expr_and
  by_cases h8 : kind = 8
  · subst h8; exact expr_or
  by_cases h9 : kind = 9
  · subst h9; exact expr_not
  exact expr_else kind h1 h2 h3 h4 h5 h6 h7 h8 h9
theorem expr_size : ∀ (n : Nat) (e : Ex), e.size ≤ n → e.short = true → ExOk e
  | 0, .mk kind line col num name op kids, h, _ => by simp [Ex.size] at h
  | n + 1, .mk kind line col num name op kids, h, hs => by
    simp only [Ex.short, Bool.and_eq_true, decide_eq_true_eq] at hs
    refine expr_kind kind line col num name op kids hs.1 (fun i hi => expr_size n _ ?_ (Ex.shorts_at hs.2 i hi))
    have := Ex.sizes_get kids i hi
    simp only [Ex.size] at h
    omega
theorem ckexpr_any (e : Ex) (h : e.short = true) : ExOk e := expr_size _ e (Nat.le_refl _) h
end Go.Proofs.YtaomlahphlemdaaGreatDoor

namespace Go.Proofs.YtaomlahphlemdaaGreatDoor
open Go.ChangeShapes Go.WideShapes Go.ChangeAt Go.RowKit
set_option linter.unusedVariables false

/-- A statement's own copy, cell by cell. -/
theorem ownS {w : World} {b : Nat} {does l c : Int} {name : List UInt8} {ev tv lv : Value} (h : w.heap[b]? = some (.cells (cellsS does l c name ev tv lv) 55 (0, 0))) :
    w.cell? ⟨b, 0, none⟩ = some (.int .i64 does) ∧ w.cell? ⟨b, 1, none⟩ = some (.int .i64 l) ∧ w.cell? ⟨b, 2, none⟩ = some (.int .i64 c) ∧ w.cell? ⟨b, 3, none⟩ = some (.string ⟨name.toArray⟩) ∧ w.cell? ⟨b, 4, none⟩ = some ev ∧ w.cell? ⟨b, 5, none⟩ = some tv ∧ w.cell? ⟨b, 6, none⟩ = some lv := by
  refine ⟨?_, ?_, ?_, ?_, ?_, ?_, ?_⟩ <;> (rw [Lib.cell_of_heap h]; rfl)
theorem boxS {w w' : World} {C : Nat} {does l c : Int} {name : List UInt8} {ev tv lv : Value} (hC : C < w.heap.size) (ht : Turn (· = C) (w.alloc (.cells (cellsS does l c name ev tv lv) 55)) w') :
    w'.heap[w.heap.size]? = some (.cells (cellsS does l c name ev tv lv) 55 (0, 0)) := (ht.block w.heap.size (by simp) (by omega)).trans (alloc_at _ _ _ rfl)
/-- A statement as it is handed on: its parts below base. -/
structure SmIn (base : Nat) (l c : Int) (es : List Ex) (w : World) (ev : Value) : Prop where
  kids : KidsAt w (· < base) es ev
  short : Ex.shorts es = true
theorem SmIn.turn {base : Nat} {l c : Int} {es : List Ex} {w w' : World} {ev : Value} {X : Nat → Prop} (h : SmIn base l c es w ev) (ht : Turn X w w') (hX : ∀ q, X q → base ≤ q) : SmIn base l c es w' ev :=
  ⟨h.kids.keep (fun q hq _ => hq) (fun q hq hl p => ht.cell hl (fun hx => by have : base ≤ q := hX q hx; have : q < base := hq; omega) p), h.short⟩
set_option maxHeartbeats 1000000 in
set_option maxRecDepth 100000 in
theorem lacks_any {does l c : Int} {name : List UInt8} {es : List Ex} {ev : Value} {ta la : Option Addr} {tn tc ln lc : Nat} {base C G F : Nat} {lv : Value} {k : Ck} {w : World} (i : Nat) (hi : i ≤ 1000) (h : Checks base C G F lv k w) (hs : SmIn base l c es w ev) :
    Calls Tryz.prog 121 #[.pointer (some ⟨C, 0, none⟩), .agg (cellsS does l c name ev (.slice ta tn tc) (.slice la ln lc)), .int .i64 i] w (CkPost base C G F lv (k.unless (decide (i < es.length)) 40 l c) (.bool (decide (es.length ≤ i))) w) := by
  obtain ⟨a, cap, rfl, hmax, _⟩ := kids_parts hs.kids
  have HC := Lib.hid h
  clear h hs
  unfold cellsS
  by_cases hq : i < es.length
  · have q1 : decide ((i : Int) < es.length) = true := by simp; omega
    have q2 : decide (i < es.length) = true := by simpa using hq
    have HV := Lib.hid (show k.unless (decide (i < es.length)) 40 l c = k by rw [q2]; rfl)
    have HR := Lib.hid (show decide (es.length ≤ i) = false by simpa using hq)
    clear q2
    go_enter Tryz.func121, Tryz.ntmps121
    go_wp2_with (fail)
    go_ret
    exact ⟨by rw [HR.out]; rfl, (Turn.refl (· = C) w).alloc _, by rw [HV.out]; exact HC.out.alloc _⟩
  · have q1 : decide ((i : Int) < es.length) = false := by simp; omega
    have q2 : decide (i < es.length) = false := by simpa using hq
    have HV := Lib.hid (show k.unless (decide (i < es.length)) 40 l c = k.fail 40 l c by rw [q2]; rfl)
    have HR := Lib.hid (show decide (es.length ≤ i) = true by simp; omega)
    clear q2
    go_enter Tryz.func121, Tryz.ntmps121
    go_wp2_with (fail)
    refine (ckfail_any (HC.out.alloc _) 40 l c).mono ?_
    rintro e w2 ⟨rfl, ht2, hc2⟩
    have HT2 := Lib.hid ht2; have HC2 := Lib.hid hc2
    clear ht2 hc2
    go_wp2_with (fail)
    go_ret
    exact ⟨by rw [HR.out]; rfl, ((Turn.refl (· = C) w).alloc _).trans HT2.out, by rw [HV.out]; exact HC2.out⟩
set_option maxHeartbeats 2000000 in
set_option maxRecDepth 100000 in
theorem part_any {does l c : Int} {name : List UInt8} {es : List Ex} {ev : Value} {ta la : Option Addr} {tn tc ln lc : Nat} {base C G F : Nat} {lv : Value} {k : Ck} {w : World} (i : Nat) (hi : i ≤ 1000) (t : Int) (h : Checks base C G F lv k w) (hs : SmIn base l c es w ev) :
    Calls Tryz.prog 108 #[.pointer (some ⟨C, 0, none⟩), .agg (cellsS does l c name ev (.slice ta tn tc) (.slice la ln lc)), .int .i64 i, .int .i64 t] w (CkPost base C G F lv (ckPart es i t l c k) (.tuple #[]) w) := by
  obtain ⟨a, cap, rfl, hmax, hrow⟩ := kids_parts hs.kids
  have HC := Lib.hid h; have HS := Lib.hid hs; have HROW := Lib.hid hrow
  have hlt : C < w.heap.size := by obtain ⟨_, _, q, _⟩ := h.open; exact q
  have hlow := h.low.1
  clear h hs hrow
  by_cases hq : i < es.length
  · have HU := Lib.hid (show k.unless (decide (i < es.length)) 40 l c = k by rw [show decide (i < es.length) = true by simpa using hq]; rfl)
    have q1 : decide (es.length ≤ i) = false := by simpa using hq
    have HP := Lib.hid (show ckPart es i t l c k = ckWant es[i] t k by unfold ckPart; rw [List.getElem?_eq_getElem hq])
    have hne : es ≠ [] := by intro q; rw [q] at hq; simp at hq
    obtain ⟨g, o, rfl, hg, hcap, hr⟩ := HROW.out hne
    have hgl : g < w.heap.size := by
      cases hq2 : es with
      | nil => exact absurd hq2 hne
      | cons x r => rw [hq2] at hr; exact hr.lt
    have HR := Lib.hid hr
    clear hne hr
    unfold cellsS
    go_enter Tryz.func108, Tryz.ntmps108
    go_wp2_with (fail)
    refine (lacks_any i hi (HC.out.alloc _) (HS.out.turn ((Turn.refl (· = C) w).alloc _) (fun q hq => by subst hq; exact hlow))).mono ?_
    rintro e w1 ⟨rfl, ht1, hc1⟩
    rw [HU.out] at hc1
    obtain ⟨d0, d1, d2, d3, d4, d5, d6⟩ := ownS (boxS hlt ht1)
    have hsz : w.heap.size < w1.heap.size := (Array.getElem?_eq_some_iff.1 (boxS hlt ht1)).1
    have hT := ((Turn.refl (· = C) w).alloc (.cells (cellsS does l c name (.slice (some ⟨g, o, none⟩) es.length cap) (.slice ta tn tc) (.slice la ln lc)) 55)).trans ht1
    have hrow2 := Row.turn hg hgl HR.out hT (fun q hq => by subst hq; exact hlow)
    obtain ⟨kd, ln2, cl, nu, nm, opp, xa, xn, xc, hkat, r0, r1, r2, r3, r4, r5, r6⟩ := kid_cells hrow2 i hq
    have hgr : g < w1.heap.size := Nat.lt_of_lt_of_le hgl hT.size
    have HT := Lib.hid hT; have HC1 := Lib.hid hc1; have HK := Lib.hid hkat
    clear ht1 hc1 hT hrow2 hkat
    go_wp2_with (fail)
    refine (ckwant_any (ckexpr_any _ (Ex.shorts_at HS.out.short i hq)) _ t HC1.out HK.out).mono ?_
    rintro e w2 ⟨rfl, ht2, hc2⟩
    have HT2 := Lib.hid ht2; have HC2 := Lib.hid hc2
    clear ht2 hc2
    go_wp2_with (fail)
    go_end0
    exact ⟨rfl, HT.out.trans HT2.out, by rw [HP.out]; exact HC2.out⟩
  · have HU := Lib.hid (show k.unless (decide (i < es.length)) 40 l c = k.fail 40 l c by rw [show decide (i < es.length) = false by simpa using hq]; rfl)
    have q1 : decide (es.length ≤ i) = true := by simp; omega
    have HP := Lib.hid (show ckPart es i t l c k = k.fail 40 l c by unfold ckPart; rw [List.getElem?_eq_none (by omega)])
    unfold cellsS
    go_enter Tryz.func108, Tryz.ntmps108
    go_wp2_with (fail)
    refine (lacks_any i hi (HC.out.alloc _) (HS.out.turn ((Turn.refl (· = C) w).alloc _) (fun q hq => by subst hq; exact hlow))).mono ?_
    rintro e w1 ⟨rfl, ht1, hc1⟩
    rw [HU.out] at hc1
    have HT1 := Lib.hid ht1; have HC1 := Lib.hid hc1
    clear ht1 hc1
    go_wp2_with (fail)
    go_end0
    exact ⟨rfl, ((Turn.refl (· = C) w).alloc _).trans HT1.out, by rw [HP.out]; exact HC1.out⟩
end Go.Proofs.YtaomlahphlemdaaGreatDoor

namespace Go.Proofs.YtaomlahphlemdaaGreatDoor
open Go.ChangeShapes Go.WideShapes Go.ChangeAt Go.RowKit
set_option linter.unusedVariables false

set_option maxHeartbeats 2000000 in
set_option maxRecDepth 100000 in
theorem set_ck {l c : Int} {name : List UInt8} {es : List Ex} {ev : Value} {ta la : Option Addr} {tn tc ln lc : Nat} {base C G F : Nat} {lv : Value} {k : Ck} {w : World} (hn : name.length ≤ 65536) (h : Checks base C G F lv k w) (hs : SmIn base l c es w ev) :
    Calls Tryz.prog 106 #[.pointer (some ⟨C, 0, none⟩), .agg (cellsS 2 l c name ev (.slice ta tn tc) (.slice la ln lc))] w (CkPost base C G F lv (ckPart es 0 (k.variable name) l c (k.unless (!(k.variable name == 0)) 21 l c)) (.tuple #[]) w) := by
  obtain ⟨a, cap, rfl, hmax, hrow⟩ := kids_parts hs.kids
  have HC := Lib.hid h; have HS := Lib.hid hs
  have hlt : C < w.heap.size := by obtain ⟨_, _, q, _⟩ := h.open; exact q
  have hlow := h.low.1
  have HLEN := Lib.hid (show name.length ≤ maxLen by unfold maxLen; omega)
  clear h hs hrow hn
  unfold cellsS
  go_enter Tryz.func106, Tryz.ntmps106
  go_wp2_with (fail)
  refine (variable_any (HC.out.alloc _) name HLEN.out).mono ?_
  rintro e w1 ⟨rfl, rfl⟩
  rcases Bool.eq_false_or_eq_true (k.variable name == 0) with hb | hb
  · have HV := Lib.hid (show k.unless (!(k.variable name == 0)) 21 l c = k.fail 21 l c by rw [hb]; rfl)
    go_wp2_with (fail)
    refine (ckfail_any (HC.out.alloc _) 21 l c).mono ?_
    rintro e w2 ⟨rfl, ht2, hc2⟩
    obtain ⟨d0, d1, d2, d3, d4, d5, d6⟩ := ownS (boxS hlt ht2)
    have hsz : w.heap.size < w2.heap.size := (Array.getElem?_eq_some_iff.1 (boxS hlt ht2)).1
    have HT2 := Lib.hid (((Turn.refl (· = C) w).alloc _).trans ht2); have HC2 := Lib.hid hc2
    clear ht2 hc2
    go_wp2_with (fail)
    refine (part_any 0 (by omega) _ HC2.out (HS.out.turn HT2.out (fun q hq => by subst hq; exact hlow))).mono ?_
    rintro e w3 ⟨rfl, ht3, hc3⟩
    have HT3 := Lib.hid ht3; have HC3 := Lib.hid hc3
    clear ht3 hc3
    go_wp2_with (fail)
    go_end0
    exact ⟨rfl, HT2.out.trans HT3.out, by rw [HV.out]; exact HC3.out⟩
  · have HV := Lib.hid (show k.unless (!(k.variable name == 0)) 21 l c = k by rw [hb]; rfl)
    go_wp2_with (fail)
    refine (part_any 0 (by omega) _ (HC.out.alloc _) (HS.out.turn ((Turn.refl (· = C) w).alloc _) (fun q hq => by subst hq; exact hlow))).mono ?_
    rintro e w3 ⟨rfl, ht3, hc3⟩
    have HT3 := Lib.hid ht3; have HC3 := Lib.hid hc3
    clear ht3 hc3
    go_wp2_with (fail)
    go_end0
    exact ⟨rfl, ((Turn.refl (· = C) w).alloc _).trans HT3.out, by rw [HV.out]; exact HC3.out⟩
set_option maxHeartbeats 2000000 in
set_option maxRecDepth 100000 in
theorem put_ck {l c : Int} {name : List UInt8} {es : List Ex} {ev : Value} {ta la : Option Addr} {tn tc ln lc : Nat} {base C G F : Nat} {lv : Value} {k : Ck} {w : World} (hn : name.length ≤ 65536) (h : Checks base C G F lv k w) (hs : SmIn base l c es w ev) :
    Calls Tryz.prog 107 #[.pointer (some ⟨C, 0, none⟩), .agg (cellsS 3 l c name ev (.slice ta tn tc) (.slice la ln lc))] w (CkPost base C G F lv (ckPart es 1 1 l c (ckPart es 0 1 l c (k.unless (k.array name) 21 l c))) (.tuple #[]) w) := by
  obtain ⟨a, cap, rfl, hmax, hrow⟩ := kids_parts hs.kids
  have HC := Lib.hid h; have HS := Lib.hid hs
  have hlt : C < w.heap.size := by obtain ⟨_, _, q, _⟩ := h.open; exact q
  have hlow := h.low.1
  have HLEN := Lib.hid (show name.length ≤ maxLen by unfold maxLen; omega)
  clear h hs hrow hn
  unfold cellsS
  go_enter Tryz.func107, Tryz.ntmps107
  go_wp2_with (fail)
  refine (array_any (HC.out.alloc _) name HLEN.out).mono ?_
  rintro e w1 ⟨rfl, rfl⟩
  rcases Bool.eq_false_or_eq_true (k.array name) with hb | hb
  · have HV := Lib.hid (show k.unless (k.array name) 21 l c = k by rw [hb]; rfl)
    go_wp2_with (fail)
    refine (part_any 0 (by omega) _ (HC.out.alloc _) (HS.out.turn ((Turn.refl (· = C) w).alloc _) (fun q hq => by subst hq; exact hlow))).mono ?_
    rintro e w3 ⟨rfl, ht3, hc3⟩
    obtain ⟨d0, d1, d2, d3, d4, d5, d6⟩ := ownS (boxS hlt ht3)
    have hsz : w.heap.size < w3.heap.size := (Array.getElem?_eq_some_iff.1 (boxS hlt ht3)).1
    have HT3 := Lib.hid (((Turn.refl (· = C) w).alloc _).trans ht3); have HC3 := Lib.hid hc3
    clear ht3 hc3
    go_wp2_with (fail)
    refine (part_any 1 (by omega) _ HC3.out (HS.out.turn HT3.out (fun q hq => by subst hq; exact hlow))).mono ?_
    rintro e w4 ⟨rfl, ht4, hc4⟩
    have HT4 := Lib.hid ht4; have HC4 := Lib.hid hc4
    clear ht4 hc4
    go_wp2_with (fail)
    go_end0
    exact ⟨rfl, HT3.out.trans HT4.out, by rw [HV.out]; exact HC4.out⟩
  · have HV := Lib.hid (show k.unless (k.array name) 21 l c = k.fail 21 l c by rw [hb]; rfl)
    go_wp2_with (fail)
    refine (ckfail_any (HC.out.alloc _) 21 l c).mono ?_
    rintro e w2 ⟨rfl, ht2, hc2⟩
    have hbx := boxS hlt ht2
    obtain ⟨d0, d1, d2, d3, d4, d5, d6⟩ := ownS hbx
    have hsz : w.heap.size < w2.heap.size := (Array.getElem?_eq_some_iff.1 hbx).1
    have HT2 := Lib.hid (((Turn.refl (· = C) w).alloc _).trans ht2); have HC2 := Lib.hid hc2; have HBX := Lib.hid hbx
    clear ht2 hc2 hbx
    go_wp2_with (fail)
    refine (part_any 0 (by omega) _ HC2.out (HS.out.turn HT2.out (fun q hq => by subst hq; exact hlow))).mono ?_
    rintro e w3 ⟨rfl, ht3, hc3⟩
    have hbx3 := (ht3.block _ hsz (by omega)).trans HBX.out
    obtain ⟨f0, f1, f2, f3, f4, f5, f6⟩ := ownS hbx3
    have hsz3 : w.heap.size < w3.heap.size := (Array.getElem?_eq_some_iff.1 hbx3).1
    have HT3 := Lib.hid (HT2.out.trans ht3); have HC3 := Lib.hid hc3
    clear ht3 hc3 hbx3
    go_wp2_with (fail)
    refine (part_any 1 (by omega) _ HC3.out (HS.out.turn HT3.out (fun q hq => by subst hq; exact hlow))).mono ?_
    rintro e w4 ⟨rfl, ht4, hc4⟩
    have HT4 := Lib.hid ht4; have HC4 := Lib.hid hc4
    clear ht4 hc4
    go_wp2_with (fail)
    go_end0
    exact ⟨rfl, HT3.out.trans HT4.out, by rw [HV.out]; exact HC4.out⟩
end Go.Proofs.YtaomlahphlemdaaGreatDoor

namespace Go.Proofs.YtaomlahphlemdaaGreatDoor
open Go.ChangeShapes Go.WideShapes Go.ChangeAt Go.RowKit
set_option linter.unusedVariables false

/-! What the checker of expressions leaves alone. -/
def SameK (k k' : Ck) : Prop := k'.gs = k.gs ∧ k'.fs = k.fs ∧ k'.gm = k.gm ∧ k'.fm = k.fm ∧ k'.lm = k.lm
theorem SameK.refl (k : Ck) : SameK k k := ⟨rfl, rfl, rfl, rfl, rfl⟩
theorem SameK.trans {a b c : Ck} (h : SameK a b) (i : SameK b c) : SameK a c := ⟨i.1.trans h.1, i.2.1.trans h.2.1, i.2.2.1.trans h.2.2.1, i.2.2.2.1.trans h.2.2.2.1, i.2.2.2.2.trans h.2.2.2.2⟩
theorem same_fail (k : Ck) (e l c : Int) : SameK k (k.fail e l c) := by unfold Ck.fail; split <;> exact ⟨rfl, rfl, rfl, rfl, rfl⟩
theorem same_unless (k : Ck) (b : Bool) (e l c : Int) : SameK k (k.unless b e l c) := by unfold Ck.unless; split; exact .refl k; exact same_fail k e l c
mutual
theorem same_expr : ∀ (e : Ex) (k : Ck), SameK k (ckExpr e k).2
  | .mk kind line col num name op kids, k => by
    rw [ckExpr]
    repeat' split
    · exact .refl k
    · exact .refl k
    · exact same_unless _ _ _ _ _
    · exact ((same_unless _ _ _ _ _).trans (same_unless _ _ _ _ _)).trans (same_kids kids _ _)
    · exact same_fail _ _ _ _
    · exact (same_unless _ _ _ _ _).trans (same_kids kids _ _)
    · exact ((same_unless _ _ _ _ _).trans (same_kids kids _ _)).trans (same_unless _ _ _ _ _)
    · exact (same_unless _ _ _ _ _).trans (same_kids kids _ _)
    · exact (same_unless _ _ _ _ _).trans (same_kids kids _ _)
    · exact same_fail _ _ _ _
theorem same_kids : ∀ (l : List Ex) (t : Int) (k : Ck), SameK k (ckKids l t k)
  | [], t, k => by rw [ckKids]; exact .refl k
  | e :: r, t, k => by rw [ckKids]; exact ((same_expr e k).trans (same_unless _ _ _ _ _)).trans (same_kids r t _)
end
/-- The locals' types are types. -/
def Typed (k : Ck) : Prop := ∀ x t, look k.lm x = some t → 0 ≤ t ∧ t ≤ 2
theorem Typed.same {k k' : Ck} (h : Typed k) (s : SameK k k') : Typed k' := fun x t => by rw [s.2.2.2.2]; exact h x t
theorem type_var {k : Ck} (h : Typed k) (x : List UInt8) : 0 ≤ k.variable x ∧ k.variable x ≤ 2 := by
  unfold Ck.variable
  split
  · rename_i t ht; exact h x t ht
  · split
    · split <;> omega
    · omega
theorem type_expr {k : Ck} (h : Typed k) : ∀ e : Ex, 0 ≤ (ckExpr e k).1 ∧ (ckExpr e k).1 ≤ 2
  | .mk kind line col num name op kids => by
    have h3 := type_var h name
    have h6 : 0 ≤ bothT op ∧ bothT op ≤ 2 := by unfold bothT; split <;> omega
    rw [ckExpr]
    repeat' split
    all_goals first | exact h3 | exact h6 | (simp only; omega) | omega
theorem wf_small {v : Int} (h : 0 ≤ v ∧ v ≤ 2) : (Lit.int .i64 v).wf = true := WalkArith.wf_i64 (by omega)
/-- The locals' map has turned. -/
theorem Checks.putL {base C G F L : Nat} {k : Ck} {w w' : World} {m : NMap} (h : Checks base C G F (.map (some L)) k w) (hg : w.grownBy w' (some L)) (hm : NM 141 w' L m) : Checks base C G F (.map (some L)) { k with lm := m } w' := by
  obtain ⟨⟨gv, fv, hb, h1, h2⟩, h3, h4, h5, h6, h7, h8, h9⟩ := h
  obtain ⟨hL, hLG, hLF⟩ := h6.2.2.2 L rfl
  have hCL : C ≠ L := by
    rcases h5 with ⟨h5, _⟩ | ⟨L', h5, h5'⟩
    · cases h5
    · cases h5; exact (map_ne h5' hb).symm
  have hcl := (Array.getElem?_eq_some_iff.1 hb).1
  have hk : ∀ g, g < base → g < w.heap.size → ∀ o, w'.cell? ⟨g, o, none⟩ = w.cell? ⟨g, o, none⟩ := fun g hg' hl o => World.cell?_of_block (hg.block g hl (by simp; omega))
  exact ⟨⟨gv, fv, (hg.block C hcl (by simpa using hCL)).trans hb, h1.keep hg.size (fun g hg _ => hg) hk, h2.keep hg.size (fun g hg _ => hg) hk⟩, h3.keep (hg.block G h3.lt (by simpa using hLG.symm)), h4.keep (hg.block F h4.lt (by simpa using hLF.symm)), .inr ⟨L, rfl, hm⟩, h6, h7, h8, h9⟩
def StPost (base C G F L : Nat) (k' : Ck) (w : World) (e : Ending) (w' : World) : Prop := e = .returned (.tuple #[]) ∧ Turn (fun q => q = C ∨ q = L) w w' ∧ Checks base C G F (.map (some L)) k' w'
theorem Turn.two {C L : Nat} {w w' : World} (h : Turn (· = C) w w') : Turn (fun q => q = C ∨ q = L) w w' := h.mono (fun _ q => .inl q)
theorem CkPost.st {base C G F L : Nat} {k' : Ck} {w : World} {e : Ending} {w' : World} (h : CkPost base C G F (.map (some L)) k' (.tuple #[]) w e w') : StPost base C G F L k' w e w' := ⟨h.1, h.2.1.two, h.2.2⟩
theorem Checks.nmL {base C G F L : Nat} {k : Ck} {w : World} (h : Checks base C G F (.map (some L)) k w) : NM 141 w L k.lm := by
  rcases h.lm with ⟨h, _⟩ | ⟨L', h, h'⟩
  · cases h
  · cases h; exact h'
theorem lacks_no {does l c : Int} {name : List UInt8} {es : List Ex} {ev : Value} {ta la : Option Addr} {tn tc ln lc : Nat} {base C G F : Nat} {lv : Value} {k : Ck} {w : World} (hi : 0 < es.length) (h : Checks base C G F lv k w) (hs : SmIn base l c es w ev) :
    Calls Tryz.prog 121 #[.pointer (some ⟨C, 0, none⟩), .agg (cellsS does l c name ev (.slice ta tn tc) (.slice la ln lc)), .int .i64 0] w (CkPost base C G F lv k (.bool false) w) := by
  have := lacks_any (does := does) (name := name) (ta := ta) (la := la) (tn := tn) (tc := tc) (ln := ln) (lc := lc) 0 (by omega) h hs
  rw [show decide (0 < es.length) = true from decide_eq_true hi, show decide (es.length ≤ 0) = false from decide_eq_false (by omega)] at this
  exact this
theorem lacks_yes {does l c : Int} {name : List UInt8} {ev : Value} {ta la : Option Addr} {tn tc ln lc : Nat} {base C G F : Nat} {lv : Value} {k : Ck} {w : World} (h : Checks base C G F lv k w) (hs : SmIn base l c [] w ev) :
    Calls Tryz.prog 121 #[.pointer (some ⟨C, 0, none⟩), .agg (cellsS does l c name ev (.slice ta tn tc) (.slice la ln lc)), .int .i64 0] w (CkPost base C G F lv (k.fail 40 l c) (.bool true) w) :=
  lacks_any (does := does) (name := name) (ta := ta) (la := la) (tn := tn) (tc := tc) (ln := ln) (lc := lc) 0 (by omega) h hs
set_option maxHeartbeats 4000000 in
set_option maxRecDepth 100000 in
theorem let_ck {l c : Int} {name : List UInt8} {es : List Ex} {ev : Value} {ta la : Option Addr} {tn tc ln lc : Nat} {base C G F L : Nat} {k : Ck} {w : World} (hn : name.length ≤ 65536) (ht : Typed k) (hsm : k.lm.length ≤ 1000000) (h : Checks base C G F (.map (some L)) k w) (hs : SmIn base l c es w ev) :
    Calls Tryz.prog 105 #[.pointer (some ⟨C, 0, none⟩), .agg (cellsS 1 l c name ev (.slice ta tn tc) (.slice la ln lc))] w (StPost base C G F L (ckLet l c name es k) w) := by
  obtain ⟨a, cap, rfl, hmax, hrow⟩ := kids_parts hs.kids
  have HC := Lib.hid h; have HS := Lib.hid hs; have HROW := Lib.hid hrow; have HTY := Lib.hid ht; have HSM := Lib.hid hsm
  have hlt : C < w.heap.size := by obtain ⟨_, _, q, _⟩ := h.open; exact q
  have hlow := h.low.1
  have HLEN := Lib.hid (show name.length ≤ maxLen by unfold maxLen; omega)
  clear h hs hrow hn ht hsm
  cases hes : es with
  | nil =>
    subst hes
    have HP := Lib.hid (show ckLet l c name [] k = k.fail 40 l c from rfl)
    unfold cellsS
    go_enter Tryz.func105, Tryz.ntmps105
    go_wp2_with (fail)
    refine (lacks_yes (HC.out.alloc _) (HS.out.turn ((Turn.refl (· = C) w).alloc _) (fun q hq => by subst hq; exact hlow))).mono ?_
    rintro e w1 ⟨rfl, ht1, hc1⟩
    have HT1 := Lib.hid ht1; have HC1 := Lib.hid hc1
    clear ht1 hc1
    go_wp2_with (fail)
    go_end0
    exact ⟨rfl, (((Turn.refl (· = C) w).alloc _).trans HT1.out).two, by rw [HP.out]; exact HC1.out⟩
  | cons ex r =>
    have hpos : 0 < es.length := by rw [hes]; simp
    have HP := Lib.hid (show ckLet l c name es k = { ((ckExpr ex k).2.unless (!(ckExpr ex k).2.known name) 20 l c) with lm := (name, some (ckExpr ex k).1) :: ((ckExpr ex k).2.unless (!(ckExpr ex k).2.known name) 20 l c).lm } by rw [hes]; rfl)
    obtain ⟨g, o, rfl, hg, hcap, hr⟩ := HROW.out (by rw [hes]; simp)
    have hgl : g < w.heap.size := by rw [hes] at hr; exact hr.lt
    have HR := Lib.hid hr; have HX := Lib.hid (show es[0] = ex by simp [hes])
    rw [← hes]
    clear hr hes
    unfold cellsS
    go_enter Tryz.func105, Tryz.ntmps105
    go_wp2_with (fail)
    refine (lacks_no hpos (HC.out.alloc _) (HS.out.turn ((Turn.refl (· = C) w).alloc _) (fun q hq => by subst hq; exact hlow))).mono ?_
    rintro e w1 ⟨rfl, ht1, hc1⟩
    have hbx1 := boxS hlt ht1
    obtain ⟨d0, d1, d2, d3, d4, d5, d6⟩ := ownS hbx1
    have hsz : w.heap.size < w1.heap.size := (Array.getElem?_eq_some_iff.1 hbx1).1
    have hT := ((Turn.refl (· = C) w).alloc (.cells (cellsS 1 l c name (.slice (some ⟨g, o, none⟩) es.length cap) (.slice ta tn tc) (.slice la ln lc)) 55)).trans ht1
    have hrow2 := Row.turn hg hgl HR.out hT (fun q hq => by subst hq; exact hlow)
    obtain ⟨kd, ln2, cl, nu, nm, opp, xa, xn, xc, hkat, r0, r1, r2, r3, r4, r5, r6⟩ := kid_cells hrow2 0 hpos
    rw [HX.out] at hkat
    simp only [Nat.zero_mul, Nat.add_zero] at r0 r1 r2 r3 r4 r5 r6
    have hgr : g < w1.heap.size := Nat.lt_of_lt_of_le hgl hT.size
    have HT := Lib.hid hT; have HC1 := Lib.hid hc1; have HK := Lib.hid hkat; have HBX1 := Lib.hid hbx1
    clear ht1 hc1 hT hrow2 hkat hbx1
    go_wp2_with (fail)
    refine (ckexpr_any ex (by have := Ex.shorts_at HS.out.short 0 hpos; rw [HX.out] at this; exact this) _ _ _ _ _ _ _ _ HC1.out HK.out).mono ?_
    rintro e w2 ⟨rfl, ht2, hc2⟩
    have hbx2 := (ht2.block _ hsz (by omega)).trans HBX1.out
    obtain ⟨f0, f1, f2, f3, f4, f5, f6⟩ := ownS hbx2
    have hsz2 : w.heap.size < w2.heap.size := (Array.getElem?_eq_some_iff.1 hbx2).1
    have HT2 := Lib.hid (HT.out.trans ht2); have HC2 := Lib.hid hc2; have HBX2 := Lib.hid hbx2
    have HVT := Lib.hid (type_expr HTY.out ex)
    have HSL := Lib.hid (show (ckExpr ex k).2.lm = k.lm from (same_expr ex k).2.2.2.2)
    clear ht2 hc2 hbx2
    generalize (ckExpr ex k).1 = v at *
    generalize (ckExpr ex k).2 = k2 at *
    go_wp2_with (fail)
    refine (ckknown_any HC2.out name HLEN.out).mono ?_
    rintro e w3 ⟨rfl, rfl⟩
    rcases Bool.eq_false_or_eq_true (k2.known name) with hb | hb
    · have HKV := Lib.hid (show k2.unless (!k2.known name) 20 l c = k2.fail 20 l c by rw [hb]; rfl)
      go_wp2_with (fail)
      refine (ckfail_any HC2.out 20 l c).mono ?_
      rintro e w4 ⟨rfl, ht4, hc4⟩
      have hbx4 := (ht4.block _ hsz2 (by omega)).trans HBX2.out
      obtain ⟨p0, p1, p2, p3, p4, p5, p6⟩ := ownS hbx4
      have hsz4 : w.heap.size < w4.heap.size := (Array.getElem?_eq_some_iff.1 hbx4).1
      have HT4 := Lib.hid (HT2.out.trans ht4); have HC4 := Lib.hid hc4
      have HLM := Lib.hid (show (k2.fail 20 l c).lm.length < maxLen by rw [(same_fail k2 20 l c).2.2.2.2, HSL.out]; have := HSM.out; unfold maxLen; omega)
      rw [HKV.out] at HP
      clear ht4 hc4 hbx4 hb HKV
      go_upto_region 5 with (fail)
      have hC := HC4.out
      obtain ⟨w5, hrun, hnm, hgr⟩ := (hC.nmL.keep (w' := w4.drew) rfl).put wType uMapT (HLM.out) HLEN.out (wf_small HVT.out)
      obtain ⟨gv, fv, hltC, _, _, _, _, _, _, c4, _, _, _, _⟩ := hC.open
      have HNM := Lib.hid hnm; have HGR := Lib.hid hgr
      clear hC hnm hgr
      go_region
      go_wp2_with (fail)
      go_end0
      exact ⟨rfl, (HT4.out.drew.two).trans (Turn.grown HGR.out (fun q hq => by cases hq; exact .inr rfl)), by rw [HP.out]; exact (HC4.out.drew).putL HGR.out HNM.out⟩
    · have HKV := Lib.hid (show k2.unless (!k2.known name) 20 l c = k2 by rw [hb]; rfl)
      have HLM := Lib.hid (show k2.lm.length < maxLen by rw [HSL.out]; have := HSM.out; unfold maxLen; omega)
      rw [HKV.out] at HP
      clear HKV
      go_upto_region 5 with (fail)
      clear hb
      have hC := HC2.out
      obtain ⟨w5, hrun, hnm, hgr⟩ := (hC.nmL.keep (w' := w3.drew) rfl).put wType uMapT (HLM.out) HLEN.out (wf_small HVT.out)
      obtain ⟨gv, fv, hltC, _, _, _, _, _, _, c4, _, _, _, _⟩ := hC.open
      have HNM := Lib.hid hnm; have HGR := Lib.hid hgr
      clear hC hnm hgr
      go_region
      go_wp2_with (fail)
      go_end0
      exact ⟨rfl, (HT2.out.drew.two).trans (Turn.grown HGR.out (fun q hq => by cases hq; exact .inr rfl)), by rw [HP.out]; exact (HC2.out.drew).putL HGR.out HNM.out⟩
end Go.Proofs.YtaomlahphlemdaaGreatDoor

namespace Go.Proofs.YtaomlahphlemdaaGreatDoor
open Go.ChangeShapes Go.WideShapes Go.ChangeAt Go.RowKit
set_option linter.unusedVariables false

mutual
/-- No name is longer than a text may be. -/
def Sm.fit : Sm → Bool
  | .mk _ _ _ name es thn els => decide (name.length ≤ 65536) && Ex.shorts es && Sm.fits thn && Sm.fits els
def Sm.fits : List Sm → Bool
  | [] => true
  | s :: r => s.fit && Sm.fits r
end
mutual
/-- How many times a statement may write into the locals. -/
def Sm.grow : Sm → Nat
  | .mk _ _ _ _ _ thn els => 1 + Sm.grows thn + Sm.grows els
def Sm.grows : List Sm → Nat
  | [] => 0
  | s :: r => s.grow + 1 + Sm.grows r
end
theorem Sm.fits_at : ∀ {l : List Sm}, Sm.fits l = true → ∀ i (h : i < l.length), (l[i]).fit = true
  | [], _, i, h => by simp at h
  | e :: r, hs, 0, h => by simp [Sm.fits] at hs; exact hs.1
  | e :: r, hs, i + 1, h => by simp [Sm.fits] at hs; exact Sm.fits_at hs.2 i (by simpa using h)
theorem Sm.grows_at : ∀ {l : List Sm} (i : Nat) (h : i < l.length), (l[i]).grow + 1 ≤ Sm.grows l
  | [], i, h => by simp at h
  | e :: r, 0, h => by simp only [Sm.grows, List.getElem_cons_zero]; omega
  | e :: r, i + 1, h => by
    have := Sm.grows_at (l := r) i (by simpa using h)
    simp only [Sm.grows, List.getElem_cons_succ]; omega
theorem lets_len : ∀ l : List Sm, (letsOf l).length ≤ l.length
  | [] => Nat.le_refl _
  | .mk does _ _ _ _ _ _ :: r => by
    have := lets_len r
    rw [letsOf]; split
    · simp; omega
    · simp; omega
theorem look_none {m : NMap} {x y : List UInt8} {t : Int} (h : look ((x, none) :: m) y = some t) : look m y = some t := by
  simp only [look] at h
  split at h
  · cases h
  · exact h
theorem drops_ok : ∀ (xs : List (List UInt8)) (k : Ck), (k.drops xs).lm.length = k.lm.length + xs.length ∧ (Typed k → Typed (k.drops xs))
  | [], k => ⟨rfl, id⟩
  | x :: r, k => by
    obtain ⟨h1, h2⟩ := drops_ok r { k with lm := forget k.lm x }
    rw [Ck.drops]
    refine ⟨by rw [h1]; simp [forget]; omega, fun ht => h2 (fun y t hy => ht y t (look_none hy))⟩
theorem part_same (es : List Ex) (i : Nat) (t l c : Int) (k : Ck) : SameK k (ckPart es i t l c k) := by
  unfold ckPart; split
  · exact (same_expr _ k).trans (same_unless _ _ _ _ _)
  · exact same_fail _ _ _ _
/-- What a statement may do to the locals. -/
def Grown (k k' : Ck) (n : Nat) : Prop := (Typed k → Typed k') ∧ k'.lm.length ≤ k.lm.length + n
theorem Grown.same {k k' : Ck} (h : SameK k k') (n : Nat) : Grown k k' n := ⟨fun t => t.same h, by rw [h.2.2.2.2]; omega⟩
theorem Grown.trans {a b c : Ck} {n m : Nat} (h : Grown a b n) (i : Grown b c m) : Grown a c (n + m) := ⟨fun t => i.1 (h.1 t), by have := h.2; have := i.2; omega⟩
theorem Grown.more {a b : Ck} {n m : Nat} (h : Grown a b n) (hm : n ≤ m) : Grown a b m := ⟨h.1, by have := h.2; omega⟩
theorem let_grown (l c : Int) (name : List UInt8) (es : List Ex) (k : Ck) : Grown k (ckLet l c name es k) 1 := by
  unfold ckLet; split
  · exact .same (same_fail _ _ _ _) _
  · rename_i e _
    have hs := (same_expr e k).trans (same_unless (ckExpr e k).2 (!(ckExpr e k).2.known name) 20 l c)
    refine ⟨fun ht x t hx => ?_, by simp only [List.length_cons]; rw [hs.2.2.2.2]; omega⟩
    simp only [look] at hx
    split at hx
    · cases hx; exact type_expr ht e
    · exact (ht.same hs) x t hx
theorem drops_grown (k : Ck) (l : List Sm) : Grown k (k.drops (letsOf l)) l.length := ⟨(drops_ok _ k).2, by have := (drops_ok (letsOf l) k).1; have := lets_len l; omega⟩
mutual
theorem stmt_grown : ∀ (s : Sm) (k : Ck), Grown k (ckStmt s k) s.grow
  | .mk does l c name es thn els, k => by
    rw [ckStmt, Sm.grow]
    have hb : ∀ (k1 : Ck), Grown k1 ((ckStmts els ((ckStmts thn k1).drops (letsOf thn))).drops (letsOf els)) (1 + Sm.grows thn + Sm.grows els) := fun k1 => by
      have h1 := stmts_grown thn k1
      have h2 := drops_grown (ckStmts thn k1) thn
      have h3 := stmts_grown els ((ckStmts thn k1).drops (letsOf thn))
      have h4 := drops_grown (ckStmts els ((ckStmts thn k1).drops (letsOf thn))) els
      refine ⟨fun t => h4.1 (h3.1 (h2.1 (h1.1 t))), ?_⟩
      have e1 := h1.2; have e2 := h2.2; have e3 := h3.2; have e4 := h4.2
      have g1 := grows_len thn; have g2 := grows_len els
      omega
    repeat' split
    · exact (let_grown _ _ _ _ _).more (by omega)
    · exact .same ((same_unless _ _ _ _ _).trans (part_same _ _ _ _ _ _)) _
    · exact .same (((same_unless _ _ _ _ _).trans (part_same _ _ _ _ _ _)).trans (part_same _ _ _ _ _ _)) _
    · have h0 := Grown.same (part_same es 0 2 l c k) 0
      have := h0.trans (hb (ckPart es 0 2 l c k))
      exact this.more (by omega)
    · exact .same (part_same _ _ _ _ _ _) _
    · exact .same (same_fail _ _ _ _) _
/-- without what is dropped at the block's end -/
theorem stmts_grown : ∀ (l : List Sm) (k : Ck), Grown k (ckStmts l k) (Sm.grows l - l.length)
  | [], k => by rw [ckStmts]; exact .same (.refl k) _
  | s :: r, k => by
    rw [ckStmts]
    have h := (stmt_grown s k).trans (stmts_grown r (ckStmt s k))
    refine h.more ?_
    have := grows_len r
    simp only [Sm.grows, List.length_cons]; omega
theorem grows_len : ∀ l : List Sm, l.length ≤ Sm.grows l
  | [] => Nat.le_refl _
  | s :: r => by have := grows_len r; simp only [Sm.grows, List.length_cons]; omega
end
theorem block_grown (l : List Sm) (k : Ck) : Grown k (ckBlock l k) (Sm.grows l) := by
  have := (stmts_grown l k).trans (drops_grown (ckStmts l k) l)
  have h := grows_len l
  exact this.more (by omega)
def stAt (l : List Sm) (i : Nat) (k : Ck) : Ck := ckStmts (l.take i) k
theorem ckStmts_snoc : ∀ (l : List Sm) (s : Sm) (k : Ck), ckStmts (l ++ [s]) k = ckStmt s (ckStmts l k)
  | [], s, k => by simp [ckStmts]
  | a :: l, s, k => by simp only [List.cons_append, ckStmts]; exact ckStmts_snoc l s _
theorem stAt_succ {l : List Sm} {i : Nat} (h : i < l.length) (k : Ck) : stAt l (i + 1) k = ckStmt l[i] (stAt l i k) := by
  unfold stAt; rw [List.take_succ_eq_append_getElem h, ckStmts_snoc]
theorem stAt_all (l : List Sm) (k : Ck) : stAt l l.length k = ckStmts l k := by unfold stAt; rw [List.take_length]
end Go.Proofs.YtaomlahphlemdaaGreatDoor

namespace Go.Proofs.YtaomlahphlemdaaGreatDoor
open Go.ChangeShapes Go.WideShapes Go.ChangeAt Go.RowKit
set_option linter.unusedVariables false

theorem sm_parts {w : World} {S : Nat → Prop} {does l c : Int} {name : List UInt8} {es : List Ex} {thn els : List Sm} {cs : Array Value} (h : (Sm.mk does l c name es thn els).At w S cs) : ∃ ev ta tc la lc, cs = cellsS does l c name ev (.slice ta thn.length tc) (.slice la els.length lc) ∧ KidsAt w S es ev ∧ BodyAt w S thn (.slice ta thn.length tc) ∧ BodyAt w S els (.slice la els.length lc) := by
  unfold Sm.At at h
  obtain ⟨ev, tv, lv, rfl, h1, h2, h3⟩ := h
  have g : ∀ (l : List Sm) (v : Value), BodyAt w S l v → ∃ a c, v = .slice a l.length c := fun l v hb => by
    rcases hb with ⟨rfl, a, cap, rfl⟩ | ⟨_, g, o, cap, rfl, _⟩ <;> exact ⟨_, _, rfl⟩
  obtain ⟨ta, tc, rfl⟩ := g thn tv h2
  obtain ⟨la, lc, rfl⟩ := g els lv h3
  exact ⟨ev, ta, tc, la, lc, rfl, h1, h2, h3⟩
theorem row_get {w : World} {S : Nat → Prop} {g : Nat} : ∀ (o : Nat) (l : List Sm), Sm.Row w S g o l → ∀ (i : Nat) (h : i < l.length), ∃ cs, (l[i]).At w S cs ∧ ∀ j, j < 7 → w.cell? ⟨g, o + i * 7 + j, none⟩ = cs[j]?
  | o, [], _, i, h => by simp at h
  | o, e :: r, hr, 0, h => by unfold Sm.Row at hr; obtain ⟨⟨cs, h1, h2⟩, _⟩ := hr; exact ⟨cs, h1, fun j hj => by rw [show o + 0 * 7 + j = o + j by omega]; exact h2 j hj⟩
  | o, e :: r, hr, i + 1, h => by
    unfold Sm.Row at hr
    obtain ⟨cs, h1, h2⟩ := row_get (o + 7) r hr.2 i (by simpa using h)
    exact ⟨cs, h1, fun j hj => by rw [show o + (i + 1) * 7 + j = o + 7 + i * 7 + j by omega]; exact h2 j hj⟩
theorem BodyAt.turn {w w' : World} {base : Nat} {l : List Sm} {v : Value} {X : Nat → Prop} (h : BodyAt w (· < base) l v) (ht : Turn X w w') (hX : ∀ q, X q → base ≤ q) : BodyAt w' (· < base) l v :=
  h.keep (fun q hq _ => hq) (fun q hq hl p => ht.cell hl (fun hx => by have : base ≤ q := hX q hx; have : q < base := hq; omega) p)
theorem SmAt.turn {w w' : World} {base : Nat} {s : Sm} {cs : Array Value} {X : Nat → Prop} (h : s.At w (· < base) cs) (ht : Turn X w w') (hX : ∀ q, X q → base ≤ q) : s.At w' (· < base) cs :=
  h.keep (fun q hq _ => hq) (fun q hq hl p => ht.cell hl (fun hx => by have : base ≤ q := hX q hx; have : q < base := hq; omega) p)
/-- What stmt promises of a statement. -/
def StOk (s : Sm) : Prop := ∀ (base C G F L : Nat) (k : Ck) (w : World) (cs : Array Value), Typed k → k.lm.length + s.grow ≤ 1000000 → Checks base C G F (.map (some L)) k w → s.At w (· < base) cs →
  Calls Tryz.prog 95 #[.pointer (some ⟨C, 0, none⟩), .agg cs] w (StPost base C G F L (ckStmt s k) w)
/-- What block promises of statements. -/
def BlOk (l : List Sm) : Prop := ∀ (base C G F L : Nat) (k : Ck) (w : World) (v : Value), Typed k → k.lm.length + Sm.grows l ≤ 1000000 → Checks base C G F (.map (some L)) k w → BodyAt w (· < base) l v →
  Calls Tryz.prog 65 #[.pointer (some ⟨C, 0, none⟩), v] w (StPost base C G F L (ckBlock l k) w)
theorem grows_append : ∀ (a b : List Sm), Sm.grows (a ++ b) = Sm.grows a + Sm.grows b
  | [], b => by simp [Sm.grows]
  | s :: r, b => by simp only [List.cons_append, Sm.grows, grows_append r b]; omega
theorem grows_take {l : List Sm} {j : Nat} (h : j < l.length) : Sm.grows (l.take j) + ((l[j]).grow + 1) ≤ Sm.grows l := by
  have e : l = l.take j ++ l.drop j := (List.take_append_drop j l).symm
  have h2 : l.drop j = l[j] :: l.drop (j + 1) := List.drop_eq_getElem_cons h
  have h3 : Sm.grows l = Sm.grows (l.take j) + Sm.grows (l.drop j) := by rw [← grows_append, ← e]
  rw [h3, h2, Sm.grows]; omega
theorem stAt_room {l : List Sm} {j : Nat} (h : j < l.length) (k : Ck) (hk : k.lm.length + Sm.grows l ≤ 1000000) : (stAt l j k).lm.length + (l[j]).grow ≤ 1000000 := by
  have h1 := (stmts_grown (l.take j) k).2
  have h2 := grows_take h
  unfold stAt
  omega
theorem drops_append : ∀ (xs ys : List (List UInt8)) (k : Ck), k.drops (xs ++ ys) = (k.drops xs).drops ys
  | [], ys, k => rfl
  | x :: r, ys, k => by simp only [List.cons_append, Ck.drops]; exact drops_append r ys _
theorem lets_append : ∀ (a b : List Sm), letsOf (a ++ b) = letsOf a ++ letsOf b
  | [], b => rfl
  | .mk does _ _ name _ _ _ :: r, b => by
    simp only [List.cons_append, letsOf]
    split
    · rw [lets_append r b]; rfl
    · exact lets_append r b
def dropAt (l : List Sm) (i : Nat) (k : Ck) : Ck := k.drops (letsOf (l.take i))
theorem dropAt_succ {l : List Sm} {i : Nat} (h : i < l.length) (k : Ck) : dropAt l (i + 1) k = (dropAt l i k).drops (letsOf [l[i]]) := by
  unfold dropAt; rw [List.take_succ_eq_append_getElem h, lets_append, drops_append]
theorem dropAt_all (l : List Sm) (k : Ck) : dropAt l l.length k = k.drops (letsOf l) := by unfold dropAt; rw [List.take_length]
set_option maxHeartbeats 4000000 in
set_option maxRecDepth 100000 in
theorem block_ck {l : List Sm} (hst : ∀ i (h : i < l.length), StOk l[i]) (hfit : Sm.fits l = true) : BlOk l := by
  intro base C G F L k w v hty hroom h hb
  have hp : ∃ a cap, v = .slice a l.length cap ∧ l.length ≤ 4611686018427387904 ∧ (l ≠ [] → ∃ g o, a = some ⟨g, o, none⟩ ∧ g < base ∧ l.length ≤ cap ∧ g < w.heap.size ∧ Sm.Row w (· < base) g o l) := by
    rcases hb with ⟨rfl, a, cap, rfl⟩ | ⟨hne, g, o, cap, rfl, hg, h1, h2, h3⟩
    · exact ⟨a, cap, rfl, by simp, fun q => absurd rfl q⟩
    · exact ⟨_, cap, rfl, h2, fun _ => ⟨g, o, rfl, hg, h1, by cases l with | nil => exact absurd rfl hne | cons x r => exact h3.lt, h3⟩⟩
  obtain ⟨a, cap, rfl, hmax, hrow⟩ := hp
  have HST := Lib.hid hst; have HROW := Lib.hid hrow; have HFIT := Lib.hid hfit; have HTY := Lib.hid hty; have HROOM := Lib.hid hroom
  have HC := Lib.hid h
  have hlow := h.low.1
  have hlowL := (h.low.2.2.2 L rfl).1
  have hXb : ∀ q, (q = C ∨ q = L) → base ≤ q := fun q hq => by rcases hq with rfl | rfl; exact hlow; exact hlowL
  have HXB := Lib.hid hXb
  clear h hb hst hrow hfit hty hroom hXb
  go_enter Tryz.func65, Tryz.ntmps65
  go_wp2_with (fail)
  go_loopw [10] (fun i wr => ∃ j : Nat, j ≤ l.length ∧ i = .int .i64 j ∧ Turn (fun q => q = C ∨ q = L) w wr ∧ Checks base C G F (.map (some L)) (stAt l j k) wr) (fun i _ => l.length - (intOf i).toNat)
  case atStart => exact ⟨0, Nat.zero_le _, rfl, Turn.refl _ _, HC.out⟩
  case round =>
    obtain ⟨j, hj, rfl, htr, hcr⟩ := hrel
    have HTR := Lib.hid htr; have HCR := Lib.hid hcr
    by_cases hjl : j < l.length
    · have hne : l ≠ [] := by intro q; rw [q] at hjl; simp at hjl
      obtain ⟨g, o, rfl, hg, hcap, hgl, hrow⟩ := HROW.out hne
      obtain ⟨cs, hat, hcl⟩ := row_get o l hrow j hjl
      cases hs : l[j] with
      | mk does ln cl name es thn els =>
        have HS := Lib.hid hs
        rw [hs] at hat
        have hat2 := SmAt.turn hat htr HXB.out
        obtain ⟨ev, ta, tc, la, lc, rfl, h1, h2, h3⟩ := sm_parts hat2
        obtain ⟨ea, ecap, rfl, _⟩ := kids_parts h1
        have hold : ∀ q, q < 7 → wr.cell? ⟨g, o + j * 7 + q, none⟩ = (cellsS does ln cl name (.slice ea es.length ecap) (.slice ta thn.length tc) (.slice la els.length lc))[q]? := fun q hq => (htr.cell hgl (fun hx => by have := HXB.out g hx; omega) _).trans (hcl q hq)
        have r0 : wr.cell? ⟨g, o + j * 7, none⟩ = some (.int .i64 does) := hold 0 (by decide)
        have r1 : wr.cell? ⟨g, o + j * 7 + 1, none⟩ = some (.int .i64 ln) := hold 1 (by decide)
        have r2 : wr.cell? ⟨g, o + j * 7 + 2, none⟩ = some (.int .i64 cl) := hold 2 (by decide)
        have r3 : wr.cell? ⟨g, o + j * 7 + 3, none⟩ = some (.string ⟨name.toArray⟩) := hold 3 (by decide)
        have r4 : wr.cell? ⟨g, o + j * 7 + 4, none⟩ = some (.slice ea es.length ecap) := hold 4 (by decide)
        have r5 : wr.cell? ⟨g, o + j * 7 + 5, none⟩ = some (.slice ta thn.length tc) := hold 5 (by decide)
        have r6 : wr.cell? ⟨g, o + j * 7 + 6, none⟩ = some (.slice la els.length lc) := hold 6 (by decide)
        have hgr : g < wr.heap.size := Nat.lt_of_lt_of_le hgl htr.size
        have HAT := Lib.hid hat2
        have HSUC := Lib.hid (stAt_succ hjl k)
        have HO := Lib.hid (HST.out j hjl)
        have HRM := Lib.hid (stAt_room hjl k HROOM.out)
        rw [hs] at HSUC HO HRM
        clear htr hcr hrow hat hat2 h1 h2 h3 hcl hold hne hs
        go_wp2_with (fail)
        refine (HO.out base C G F L _ _ _ ((stmts_grown (l.take j) k).1 HTY.out) HRM.out (HCR.out.alloc _) (SmAt.turn HAT.out ((Turn.refl (fun q => q = C ∨ q = L) wr).alloc _) HXB.out)).mono ?_
        rintro e w2 ⟨rfl, ht2, hc2⟩
        have HT2 := Lib.hid ht2; have HC2 := Lib.hid hc2
        clear ht2 hc2
        go_wp2_with (fail)
        go_roundw
        case rel => exact ⟨j + 1, by omega, by go_num, (HTR.out.alloc _).trans HT2.out, by rw [HSUC.out]; exact HC2.out⟩
        case measure => simp [intOf]; omega
    · obtain rfl : j = l.length := by omega
      have HALL := Lib.hid (stAt_all l k)
      rw [HALL.out] at HCR
      clear htr hcr
      go_wp2_with (fail)
      go_loopw [20] (fun i wx => ∃ j : Nat, j ≤ l.length ∧ i = .int .i64 j ∧ Turn (fun q => q = C ∨ q = L) w wx ∧ Checks base C G F (.map (some L)) (dropAt l j (ckStmts l k)) wx) (fun i _ => l.length - (intOf i).toNat)
      case atStart => exact ⟨0, Nat.zero_le _, rfl, HTR.out, HCR.out⟩
      case round =>
        obtain ⟨j, hj2, rfl, htx, hcx⟩ := hrel
        have HTX := Lib.hid htx; have HCX := Lib.hid hcx
        by_cases hjl : j < l.length
        · have hne : l ≠ [] := by intro q; rw [q] at hjl; simp at hjl
          obtain ⟨g, o, rfl, hg, hcap, hgl, hrow⟩ := HROW.out hne
          obtain ⟨cs, hat, hcl⟩ := row_get o l hrow j hjl
          cases hs : l[j] with
          | mk does ln cl name es thn els =>
            rw [hs] at hat
            have hat2 := SmAt.turn hat htx HXB.out
            obtain ⟨ev, ta, tc, la, lc, rfl, h1, h2, h3⟩ := sm_parts hat2
            obtain ⟨ea, ecap, rfl, _⟩ := kids_parts h1
            have hold : ∀ q, q < 7 → wr.cell? ⟨g, o + j * 7 + q, none⟩ = (cellsS does ln cl name (.slice ea es.length ecap) (.slice ta thn.length tc) (.slice la els.length lc))[q]? := fun q hq => (htx.cell hgl (fun hx => by have := HXB.out g hx; omega) _).trans (hcl q hq)
            have r0 : wr.cell? ⟨g, o + j * 7, none⟩ = some (.int .i64 does) := hold 0 (by decide)
            have r1 : wr.cell? ⟨g, o + j * 7 + 1, none⟩ = some (.int .i64 ln) := hold 1 (by decide)
            have r2 : wr.cell? ⟨g, o + j * 7 + 2, none⟩ = some (.int .i64 cl) := hold 2 (by decide)
            have r3 : wr.cell? ⟨g, o + j * 7 + 3, none⟩ = some (.string ⟨name.toArray⟩) := hold 3 (by decide)
            have r4 : wr.cell? ⟨g, o + j * 7 + 4, none⟩ = some (.slice ea es.length ecap) := hold 4 (by decide)
            have r5 : wr.cell? ⟨g, o + j * 7 + 5, none⟩ = some (.slice ta thn.length tc) := hold 5 (by decide)
            have r6 : wr.cell? ⟨g, o + j * 7 + 6, none⟩ = some (.slice la els.length lc) := hold 6 (by decide)
            have hgr : g < wr.heap.size := Nat.lt_of_lt_of_le hgl htx.size
            have HSUC := Lib.hid (dropAt_succ hjl (ckStmts l k))
            have HNM := Lib.hid (show name.length ≤ maxLen by
              have := Sm.fits_at HFIT.out j hjl
              rw [hs] at this
              simp only [Sm.fit, Bool.and_eq_true, decide_eq_true_eq] at this
              have := this.1.1.1
              unfold maxLen; omega)
            rw [hs] at HSUC
            clear htx hcx hrow hat hat2 h1 h2 h3 hcl hold hne hs
            by_cases hd : does = 1
            · have hd1 : (does == 1) = true := by simpa using hd
              have HD := Lib.hid (show letsOf [Sm.mk does ln cl name es thn els] = [name] by simp [letsOf, hd])
              clear hd
              go_upto_region 9 with (fail)
              change Code.wp _ _ _ _ (wr.alloc (.cells (cellsS does ln cl name (.slice ea es.length ecap) (.slice ta thn.length tc) (.slice la els.length lc)) 55))
              have hC := HCX.out.alloc (.cells (cellsS does ln cl name (.slice ea es.length ecap) (.slice ta thn.length tc) (.slice la els.length lc)) 55)
              have hB := alloc_at wr (.cells (cellsS does ln cl name (.slice ea es.length ecap) (.slice ta thn.length tc) (.slice la els.length lc)) 55) _ rfl
              have hT := HTX.out.alloc (.cells (cellsS does ln cl name (.slice ea es.length ecap) (.slice ta thn.length tc) (.slice la els.length lc)) 55)
              generalize wr.alloc (.cells (cellsS does ln cl name (.slice ea es.length ecap) (.slice ta thn.length tc) (.slice la els.length lc)) 55) = W at *
              obtain ⟨w5, hrun, hnm, hgrw⟩ := (hC.nmL.keep (w' := W.drew) rfl).del (x := name) uMapT HNM.out 0
              obtain ⟨gv, fv, hltC, _, _, _, _, _, _, c4, _, _, _, _⟩ := hC.open
              obtain ⟨d0, d1, d2, d3, d4, d5, d6⟩ := ownS hB
              have hsz : wr.heap.size < W.heap.size := (Array.getElem?_eq_some_iff.1 hB).1
              have HNM2 := Lib.hid hnm; have HGR := Lib.hid hgrw; have HC9 := Lib.hid hC; have HT9 := Lib.hid hT
              clear hC hB hT hnm hgrw r0 r1 r2 r3 r4 r5 r6
              go_region
              go_wp2_with (fail)
              go_roundw
              case rel => exact ⟨j + 1, by omega, by go_num, HT9.out.drew.trans (Turn.grown HGR.out (fun q hq => by cases hq; exact .inr rfl)), by rw [HSUC.out, HD.out]; exact HC9.out.drew.putL HGR.out HNM2.out⟩
              case measure => simp [intOf]; omega
            · have hd1 : (does == 1) = false := by simpa using hd
              have HD := Lib.hid (show letsOf [Sm.mk does ln cl name es thn els] = [] by simp [letsOf, hd])
              clear hd
              go_wp2_with (fail)
              go_roundw
              case rel => exact ⟨j + 1, by omega, by go_num, HTX.out.alloc _, by rw [HSUC.out, HD.out]; exact HCX.out.alloc _⟩
              case measure => simp [intOf]; omega
        · obtain rfl : j = l.length := by omega
          have HALL2 := Lib.hid (dropAt_all l (ckStmts l k))
          rw [HALL2.out] at HCX
          clear htx hcx
          go_wp2_with (fail)
          go_end0
          exact ⟨rfl, HTX.out, HCX.out⟩
end Go.Proofs.YtaomlahphlemdaaGreatDoor

namespace Go.Proofs.YtaomlahphlemdaaGreatDoor
open Go.ChangeShapes Go.WideShapes Go.ChangeAt Go.RowKit
set_option linter.unusedVariables false

def StAt (does : Int) : Prop := ∀ (l c : Int) (name : List UInt8) (es : List Ex) (thn els : List Sm), (Sm.mk does l c name es thn els).fit = true → BlOk thn → BlOk els → StOk (.mk does l c name es thn els)
set_option maxHeartbeats 2000000 in
set_option maxRecDepth 100000 in
theorem ckst_let : StAt 1 := by
  intro l c name es thn els hfit hbt hbe base C G F L k w cs hty hroom h hat
  have HE := Lib.hid (show ckStmt (.mk 1 l c name es thn els) k = ckLet l c name es k by simp [ckStmt])
  rw [HE.out]
  simp only [Sm.fit, Bool.and_eq_true, decide_eq_true_eq] at hfit
  obtain ⟨⟨⟨hn, hsh⟩, hft⟩, hfe⟩ := hfit
  obtain ⟨ev, ta, tc, la, lc, rfl, h1, h2, h3⟩ := sm_parts hat
  obtain ⟨ea, ecap, rfl, _⟩ := kids_parts h1
  have HC := Lib.hid h; have HN := Lib.hid hn; have HTY := Lib.hid hty; have HROOM := Lib.hid hroom
  have HS := Lib.hid (show SmIn base l c es w (.slice ea es.length ecap) from ⟨h1, hsh⟩)
  have HBT := Lib.hid hbt; have HBE := Lib.hid hbe; have H2 := Lib.hid h2; have H3 := Lib.hid h3
  have hlt : C < w.heap.size := by obtain ⟨_, _, q, _⟩ := h.open; exact q
  have hltL : L < w.heap.size := h.nmL.lt
  have hlow := h.low.1
  have HXB := Lib.hid (show ∀ q, (q = C ∨ q = L) → base ≤ q from fun q hq => by rcases hq with rfl | rfl; exact hlow; exact (h.low.2.2.2 _ rfl).1)
  clear h hat h1 h2 h3 hn hsh hft hfe hty hroom hbt hbe HE
  unfold cellsS
  go_enter Tryz.func95, Tryz.ntmps95
  go_wp2_with (fail)
  refine (let_ck HN.out HTY.out (by have := HROOM.out; omega) (HC.out.alloc _) (HS.out.turn ((Turn.refl (· = C) w).alloc _) (fun q hq => by subst hq; exact hlow))).mono ?_
  rintro e w2 ⟨rfl, ht2, hc2⟩
  have HT2 := Lib.hid ht2; have HC2 := Lib.hid hc2
  clear ht2 hc2
  go_wp2_with (fail)
  go_end0
  exact ⟨rfl, (((Turn.refl (· = C) w).alloc _).two).trans HT2.out, HC2.out⟩
set_option maxHeartbeats 2000000 in
set_option maxRecDepth 100000 in
theorem ckst_set : StAt 2 := by
  intro l c name es thn els hfit hbt hbe base C G F L k w cs hty hroom h hat
  have HE := Lib.hid (show ckStmt (.mk 2 l c name es thn els) k = ckPart es 0 (k.variable name) l c (k.unless (!(k.variable name == 0)) 21 l c) by simp [ckStmt])
  rw [HE.out]
  simp only [Sm.fit, Bool.and_eq_true, decide_eq_true_eq] at hfit
  obtain ⟨⟨⟨hn, hsh⟩, hft⟩, hfe⟩ := hfit
  obtain ⟨ev, ta, tc, la, lc, rfl, h1, h2, h3⟩ := sm_parts hat
  obtain ⟨ea, ecap, rfl, _⟩ := kids_parts h1
  have HC := Lib.hid h; have HN := Lib.hid hn; have HTY := Lib.hid hty; have HROOM := Lib.hid hroom
  have HS := Lib.hid (show SmIn base l c es w (.slice ea es.length ecap) from ⟨h1, hsh⟩)
  have HBT := Lib.hid hbt; have HBE := Lib.hid hbe; have H2 := Lib.hid h2; have H3 := Lib.hid h3
  have hlt : C < w.heap.size := by obtain ⟨_, _, q, _⟩ := h.open; exact q
  have hltL : L < w.heap.size := h.nmL.lt
  have hlow := h.low.1
  have HXB := Lib.hid (show ∀ q, (q = C ∨ q = L) → base ≤ q from fun q hq => by rcases hq with rfl | rfl; exact hlow; exact (h.low.2.2.2 _ rfl).1)
  clear h hat h1 h2 h3 hn hsh hft hfe hty hroom hbt hbe HE
  unfold cellsS
  go_enter Tryz.func95, Tryz.ntmps95
  go_wp2_with (fail)
  refine (set_ck HN.out (HC.out.alloc _) (HS.out.turn ((Turn.refl (· = C) w).alloc _) (fun q hq => by subst hq; exact hlow))).mono ?_
  rintro e w2 ⟨rfl, ht2, hc2⟩
  have HT2 := Lib.hid ht2; have HC2 := Lib.hid hc2
  clear ht2 hc2
  go_wp2_with (fail)
  go_end0
  exact ⟨rfl, (((Turn.refl (· = C) w).alloc _).trans HT2.out).two, HC2.out⟩
set_option maxHeartbeats 2000000 in
set_option maxRecDepth 100000 in
theorem ckst_put : StAt 3 := by
  intro l c name es thn els hfit hbt hbe base C G F L k w cs hty hroom h hat
  have HE := Lib.hid (show ckStmt (.mk 3 l c name es thn els) k = ckPart es 1 1 l c (ckPart es 0 1 l c (k.unless (k.array name) 21 l c)) by simp [ckStmt])
  rw [HE.out]
  simp only [Sm.fit, Bool.and_eq_true, decide_eq_true_eq] at hfit
  obtain ⟨⟨⟨hn, hsh⟩, hft⟩, hfe⟩ := hfit
  obtain ⟨ev, ta, tc, la, lc, rfl, h1, h2, h3⟩ := sm_parts hat
  obtain ⟨ea, ecap, rfl, _⟩ := kids_parts h1
  have HC := Lib.hid h; have HN := Lib.hid hn; have HTY := Lib.hid hty; have HROOM := Lib.hid hroom
  have HS := Lib.hid (show SmIn base l c es w (.slice ea es.length ecap) from ⟨h1, hsh⟩)
  have HBT := Lib.hid hbt; have HBE := Lib.hid hbe; have H2 := Lib.hid h2; have H3 := Lib.hid h3
  have hlt : C < w.heap.size := by obtain ⟨_, _, q, _⟩ := h.open; exact q
  have hltL : L < w.heap.size := h.nmL.lt
  have hlow := h.low.1
  have HXB := Lib.hid (show ∀ q, (q = C ∨ q = L) → base ≤ q from fun q hq => by rcases hq with rfl | rfl; exact hlow; exact (h.low.2.2.2 _ rfl).1)
  clear h hat h1 h2 h3 hn hsh hft hfe hty hroom hbt hbe HE
  unfold cellsS
  go_enter Tryz.func95, Tryz.ntmps95
  go_wp2_with (fail)
  refine (put_ck HN.out (HC.out.alloc _) (HS.out.turn ((Turn.refl (· = C) w).alloc _) (fun q hq => by subst hq; exact hlow))).mono ?_
  rintro e w2 ⟨rfl, ht2, hc2⟩
  have HT2 := Lib.hid ht2; have HC2 := Lib.hid hc2
  clear ht2 hc2
  go_wp2_with (fail)
  go_end0
  exact ⟨rfl, (((Turn.refl (· = C) w).alloc _).trans HT2.out).two, HC2.out⟩
set_option maxHeartbeats 2000000 in
set_option maxRecDepth 100000 in
theorem ckst_return : StAt 6 := by
  intro l c name es thn els hfit hbt hbe base C G F L k w cs hty hroom h hat
  have HE := Lib.hid (show ckStmt (.mk 6 l c name es thn els) k = ckPart es 0 1 l c k by simp [ckStmt])
  rw [HE.out]
  simp only [Sm.fit, Bool.and_eq_true, decide_eq_true_eq] at hfit
  obtain ⟨⟨⟨hn, hsh⟩, hft⟩, hfe⟩ := hfit
  obtain ⟨ev, ta, tc, la, lc, rfl, h1, h2, h3⟩ := sm_parts hat
  obtain ⟨ea, ecap, rfl, _⟩ := kids_parts h1
  have HC := Lib.hid h; have HN := Lib.hid hn; have HTY := Lib.hid hty; have HROOM := Lib.hid hroom
  have HS := Lib.hid (show SmIn base l c es w (.slice ea es.length ecap) from ⟨h1, hsh⟩)
  have HBT := Lib.hid hbt; have HBE := Lib.hid hbe; have H2 := Lib.hid h2; have H3 := Lib.hid h3
  have hlt : C < w.heap.size := by obtain ⟨_, _, q, _⟩ := h.open; exact q
  have hltL : L < w.heap.size := h.nmL.lt
  have hlow := h.low.1
  have HXB := Lib.hid (show ∀ q, (q = C ∨ q = L) → base ≤ q from fun q hq => by rcases hq with rfl | rfl; exact hlow; exact (h.low.2.2.2 _ rfl).1)
  clear h hat h1 h2 h3 hn hsh hft hfe hty hroom hbt hbe HE
  unfold cellsS
  go_enter Tryz.func95, Tryz.ntmps95
  go_wp2_with (fail)
  refine (part_any 0 (by omega) 1 (HC.out.alloc _) (HS.out.turn ((Turn.refl (· = C) w).alloc _) (fun q hq => by subst hq; exact hlow))).mono ?_
  rintro e w2 ⟨rfl, ht2, hc2⟩
  have HT2 := Lib.hid ht2; have HC2 := Lib.hid hc2
  clear ht2 hc2
  go_wp2_with (fail)
  go_end0
  exact ⟨rfl, (((Turn.refl (· = C) w).alloc _).trans HT2.out).two, HC2.out⟩
set_option maxHeartbeats 2000000 in
set_option maxRecDepth 100000 in
theorem ckst_run : StAt 7 := by
  intro l c name es thn els hfit hbt hbe base C G F L k w cs hty hroom h hat
  have HE := Lib.hid (show ckStmt (.mk 7 l c name es thn els) k = ckPart es 0 1 l c k by simp [ckStmt])
  rw [HE.out]
  simp only [Sm.fit, Bool.and_eq_true, decide_eq_true_eq] at hfit
  obtain ⟨⟨⟨hn, hsh⟩, hft⟩, hfe⟩ := hfit
  obtain ⟨ev, ta, tc, la, lc, rfl, h1, h2, h3⟩ := sm_parts hat
  obtain ⟨ea, ecap, rfl, _⟩ := kids_parts h1
  have HC := Lib.hid h; have HN := Lib.hid hn; have HTY := Lib.hid hty; have HROOM := Lib.hid hroom
  have HS := Lib.hid (show SmIn base l c es w (.slice ea es.length ecap) from ⟨h1, hsh⟩)
  have HBT := Lib.hid hbt; have HBE := Lib.hid hbe; have H2 := Lib.hid h2; have H3 := Lib.hid h3
  have hlt : C < w.heap.size := by obtain ⟨_, _, q, _⟩ := h.open; exact q
  have hltL : L < w.heap.size := h.nmL.lt
  have hlow := h.low.1
  have HXB := Lib.hid (show ∀ q, (q = C ∨ q = L) → base ≤ q from fun q hq => by rcases hq with rfl | rfl; exact hlow; exact (h.low.2.2.2 _ rfl).1)
  clear h hat h1 h2 h3 hn hsh hft hfe hty hroom hbt hbe HE
  unfold cellsS
  go_enter Tryz.func95, Tryz.ntmps95
  go_wp2_with (fail)
  refine (part_any 0 (by omega) 1 (HC.out.alloc _) (HS.out.turn ((Turn.refl (· = C) w).alloc _) (fun q hq => by subst hq; exact hlow))).mono ?_
  rintro e w2 ⟨rfl, ht2, hc2⟩
  have HT2 := Lib.hid ht2; have HC2 := Lib.hid hc2
  clear ht2 hc2
  go_wp2_with (fail)
  go_end0
  exact ⟨rfl, (((Turn.refl (· = C) w).alloc _).trans HT2.out).two, HC2.out⟩
set_option maxHeartbeats 2000000 in
set_option maxRecDepth 100000 in
theorem ckst_if : StAt 4 := by
  intro l c name es thn els hfit hbt hbe base C G F L k w cs hty hroom h hat
  have HE := Lib.hid (show ckStmt (.mk 4 l c name es thn els) k = ckBlock els (ckBlock thn (ckPart es 0 2 l c k)) by simp [ckStmt, ckBlock])
  rw [HE.out]
  simp only [Sm.fit, Bool.and_eq_true, decide_eq_true_eq] at hfit
  obtain ⟨⟨⟨hn, hsh⟩, hft⟩, hfe⟩ := hfit
  obtain ⟨ev, ta, tc, la, lc, rfl, h1, h2, h3⟩ := sm_parts hat
  obtain ⟨ea, ecap, rfl, _⟩ := kids_parts h1
  have HC := Lib.hid h; have HN := Lib.hid hn; have HTY := Lib.hid hty; have HROOM := Lib.hid hroom
  have HS := Lib.hid (show SmIn base l c es w (.slice ea es.length ecap) from ⟨h1, hsh⟩)
  have HBT := Lib.hid hbt; have HBE := Lib.hid hbe; have H2 := Lib.hid h2; have H3 := Lib.hid h3
  have hlt : C < w.heap.size := by obtain ⟨_, _, q, _⟩ := h.open; exact q
  have hltL : L < w.heap.size := h.nmL.lt
  have hlow := h.low.1
  have HXB := Lib.hid (show ∀ q, (q = C ∨ q = L) → base ≤ q from fun q hq => by rcases hq with rfl | rfl; exact hlow; exact (h.low.2.2.2 _ rfl).1)
  clear h hat h1 h2 h3 hn hsh hft hfe hty hroom hbt hbe HE
  unfold cellsS
  go_enter Tryz.func95, Tryz.ntmps95
  go_wp2_with (fail)
  refine (part_any 0 (by omega) 2 (HC.out.alloc _) (HS.out.turn ((Turn.refl (· = C) w).alloc _) (fun q hq => by subst hq; exact hlow))).mono ?_
  rintro e w2 ⟨rfl, ht2, hc2⟩
  have hbx := boxS hlt ht2
  obtain ⟨d0, d1, d2, d3, d4, d5, d6⟩ := ownS hbx
  have hsz : w.heap.size < w2.heap.size := (Array.getElem?_eq_some_iff.1 hbx).1
  have HT2 := Lib.hid ((((Turn.refl (· = C) w).alloc _).trans ht2).two (L := L)); have HC2 := Lib.hid hc2; have HBX := Lib.hid hbx
  clear ht2 hc2 hbx
  have HG1 := Lib.hid (Grown.same (part_same es 0 2 l c k) 0)
  have HG2 := Lib.hid (block_grown thn (ckPart es 0 2 l c k))
  have HR1 := Lib.hid (show (ckPart es 0 2 l c k).lm.length + Sm.grows thn ≤ 1000000 by have q1 := HROOM.out; have q2 := HG1.out.2; simp only [Sm.grow] at q1; omega)
  have HR2 := Lib.hid (show (ckBlock thn (ckPart es 0 2 l c k)).lm.length + Sm.grows els ≤ 1000000 by have q1 := HROOM.out; have q2 := HG1.out.2; have q3 := HG2.out.2; simp only [Sm.grow] at q1; omega)
  go_wp2_with (fail)
  refine (HBT.out base C G F L _ _ _ (HG1.out.1 HTY.out) HR1.out HC2.out (H2.out.turn HT2.out HXB.out)).mono ?_
  rintro e w3 ⟨rfl, ht3, hc3⟩
  have hbx3 := (ht3.block _ hsz (by omega)).trans HBX.out
  obtain ⟨f0, f1, f2, f3, f4, f5, f6⟩ := ownS hbx3
  have hsz3 : w.heap.size < w3.heap.size := (Array.getElem?_eq_some_iff.1 hbx3).1
  have HT3 := Lib.hid (HT2.out.trans ht3); have HC3 := Lib.hid hc3
  clear ht3 hc3 hbx3
  go_wp2_with (fail)
  refine (HBE.out base C G F L _ _ _ (HG2.out.1 (HG1.out.1 HTY.out)) HR2.out HC3.out (H3.out.turn HT3.out HXB.out)).mono ?_
  rintro e w4 ⟨rfl, ht4, hc4⟩
  have HT4 := Lib.hid ht4; have HC4 := Lib.hid hc4
  clear ht4 hc4
  go_wp2_with (fail)
  go_end0
  exact ⟨rfl, HT3.out.trans HT4.out, HC4.out⟩
set_option maxHeartbeats 2000000 in
set_option maxRecDepth 100000 in
theorem ckst_while : StAt 5 := by
  intro l c name es thn els hfit hbt hbe base C G F L k w cs hty hroom h hat
  have HE := Lib.hid (show ckStmt (.mk 5 l c name es thn els) k = ckBlock els (ckBlock thn (ckPart es 0 2 l c k)) by simp [ckStmt, ckBlock])
  rw [HE.out]
  simp only [Sm.fit, Bool.and_eq_true, decide_eq_true_eq] at hfit
  obtain ⟨⟨⟨hn, hsh⟩, hft⟩, hfe⟩ := hfit
  obtain ⟨ev, ta, tc, la, lc, rfl, h1, h2, h3⟩ := sm_parts hat
  obtain ⟨ea, ecap, rfl, _⟩ := kids_parts h1
  have HC := Lib.hid h; have HN := Lib.hid hn; have HTY := Lib.hid hty; have HROOM := Lib.hid hroom
  have HS := Lib.hid (show SmIn base l c es w (.slice ea es.length ecap) from ⟨h1, hsh⟩)
  have HBT := Lib.hid hbt; have HBE := Lib.hid hbe; have H2 := Lib.hid h2; have H3 := Lib.hid h3
  have hlt : C < w.heap.size := by obtain ⟨_, _, q, _⟩ := h.open; exact q
  have hltL : L < w.heap.size := h.nmL.lt
  have hlow := h.low.1
  have HXB := Lib.hid (show ∀ q, (q = C ∨ q = L) → base ≤ q from fun q hq => by rcases hq with rfl | rfl; exact hlow; exact (h.low.2.2.2 _ rfl).1)
  clear h hat h1 h2 h3 hn hsh hft hfe hty hroom hbt hbe HE
  unfold cellsS
  go_enter Tryz.func95, Tryz.ntmps95
  go_wp2_with (fail)
  refine (part_any 0 (by omega) 2 (HC.out.alloc _) (HS.out.turn ((Turn.refl (· = C) w).alloc _) (fun q hq => by subst hq; exact hlow))).mono ?_
  rintro e w2 ⟨rfl, ht2, hc2⟩
  have hbx := boxS hlt ht2
  obtain ⟨d0, d1, d2, d3, d4, d5, d6⟩ := ownS hbx
  have hsz : w.heap.size < w2.heap.size := (Array.getElem?_eq_some_iff.1 hbx).1
  have HT2 := Lib.hid ((((Turn.refl (· = C) w).alloc _).trans ht2).two (L := L)); have HC2 := Lib.hid hc2; have HBX := Lib.hid hbx
  clear ht2 hc2 hbx
  have HG1 := Lib.hid (Grown.same (part_same es 0 2 l c k) 0)
  have HG2 := Lib.hid (block_grown thn (ckPart es 0 2 l c k))
  have HR1 := Lib.hid (show (ckPart es 0 2 l c k).lm.length + Sm.grows thn ≤ 1000000 by have q1 := HROOM.out; have q2 := HG1.out.2; simp only [Sm.grow] at q1; omega)
  have HR2 := Lib.hid (show (ckBlock thn (ckPart es 0 2 l c k)).lm.length + Sm.grows els ≤ 1000000 by have q1 := HROOM.out; have q2 := HG1.out.2; have q3 := HG2.out.2; simp only [Sm.grow] at q1; omega)
  go_wp2_with (fail)
  refine (HBT.out base C G F L _ _ _ (HG1.out.1 HTY.out) HR1.out HC2.out (H2.out.turn HT2.out HXB.out)).mono ?_
  rintro e w3 ⟨rfl, ht3, hc3⟩
  have hbx3 := (ht3.block _ hsz (by omega)).trans HBX.out
  obtain ⟨f0, f1, f2, f3, f4, f5, f6⟩ := ownS hbx3
  have hsz3 : w.heap.size < w3.heap.size := (Array.getElem?_eq_some_iff.1 hbx3).1
  have HT3 := Lib.hid (HT2.out.trans ht3); have HC3 := Lib.hid hc3
  clear ht3 hc3 hbx3
  go_wp2_with (fail)
  refine (HBE.out base C G F L _ _ _ (HG2.out.1 (HG1.out.1 HTY.out)) HR2.out HC3.out (H3.out.turn HT3.out HXB.out)).mono ?_
  rintro e w4 ⟨rfl, ht4, hc4⟩
  have HT4 := Lib.hid ht4; have HC4 := Lib.hid hc4
  clear ht4 hc4
  go_wp2_with (fail)
  go_end0
  exact ⟨rfl, HT3.out.trans HT4.out, HC4.out⟩
set_option maxHeartbeats 2000000 in
set_option maxRecDepth 100000 in
theorem ckst_else (does : Int) (h1 : does ≠ 1) (h2 : does ≠ 2) (h3 : does ≠ 3) (h4 : does ≠ 4) (h5 : does ≠ 5) (h6 : does ≠ 6) (h7 : does ≠ 7) : StAt does := by
  intro l c name es thn els hfit hbt hbe base C G F L k w cs hty hroom h hat
  have HE := Lib.hid (show ckStmt (.mk does l c name es thn els) k = k.fail 40 l c by simp [ckStmt, h1, h2, h3, h4, h5, h6, h7])
  rw [HE.out]
  simp only [Sm.fit, Bool.and_eq_true, decide_eq_true_eq] at hfit
  obtain ⟨⟨⟨hn, hsh⟩, hft⟩, hfe⟩ := hfit
  obtain ⟨ev, ta, tc, la, lc, rfl, g1, g2, g3⟩ := sm_parts hat
  obtain ⟨ea, ecap, rfl, _⟩ := kids_parts g1
  have HC := Lib.hid h; have HN := Lib.hid hn; have HTY := Lib.hid hty; have HROOM := Lib.hid hroom
  have HS := Lib.hid (show SmIn base l c es w (.slice ea es.length ecap) from ⟨g1, hsh⟩)
  have HBT := Lib.hid hbt; have HBE := Lib.hid hbe; have H2 := Lib.hid g2; have H3 := Lib.hid g3
  have hlt : C < w.heap.size := by obtain ⟨_, _, q, _⟩ := h.open; exact q
  have hltL : L < w.heap.size := h.nmL.lt
  have hlow := h.low.1
  have HXB := Lib.hid (show ∀ q, (q = C ∨ q = L) → base ≤ q from fun q hq => by rcases hq with rfl | rfl; exact hlow; exact (h.low.2.2.2 _ rfl).1)
  clear h hat g1 g2 g3 hn hsh hft hfe hty hroom hbt hbe HE
  unfold cellsS
  have b1 : (does == 1) = false := by simpa using h1
  have b2 : (does == 2) = false := by simpa using h2
  have b3 : (does == 3) = false := by simpa using h3
  have b4 : (does == 4) = false := by simpa using h4
  have b5 : (does == 5) = false := by simpa using h5
  have b6 : (does == 6) = false := by simpa using h6
  have b7 : (does == 7) = false := by simpa using h7
  clear h1 h2 h3 h4 h5 h6 h7
  go_enter Tryz.func95, Tryz.ntmps95
  go_wp2_with (fail)
  refine (ckfail_any (HC.out.alloc _) 40 l c).mono ?_
  rintro e w2 ⟨rfl, ht2, hc2⟩
  have HT2 := Lib.hid ht2; have HC2 := Lib.hid hc2
  clear ht2 hc2
  go_wp2_with (fail)
  go_end0
  exact ⟨rfl, (((Turn.refl (· = C) w).alloc _).trans HT2.out).two, HC2.out⟩
theorem ckst_does (does : Int) : StAt does := by
  by_cases h1 : does = 1
  · subst h1; exact ckst_let
  by_cases h2 : does = 2
  · subst h2; exact ckst_set
  by_cases h3 : does = 3
  · subst h3; exact ckst_put
  by_cases h4 : does = 4
  · subst h4; exact ckst_if
  by_cases h5 : does = 5
  · subst h5; exact ckst_while
  by_cases h6 : does = 6
  · subst h6; exact ckst_return
  by_cases h7 : does = 7
  · subst h7; exact ckst_run
  exact ckst_else does h1 h2 h3 h4 h5 h6 h7
theorem blocks_size : ∀ n : Nat, (∀ s : Sm, s.grow ≤ n → s.fit = true → StOk s) ∧ (∀ l : List Sm, Sm.grows l ≤ n → Sm.fits l = true → BlOk l)
  | 0 => ⟨fun s hs => by cases s; simp [Sm.grow] at hs, fun l hl hf => by
      cases l with
      | nil => exact block_ck (fun i h => by simp at h) rfl
      | cons s r => simp [Sm.grows] at hl⟩
  | n + 1 => by
    obtain ⟨ih1, ih2⟩ := blocks_size n
    have hst : ∀ s : Sm, s.grow ≤ n + 1 → s.fit = true → StOk s := fun s hs hf => by
      cases s with
      | mk does l c name es thn els =>
        have hf' := hf
        simp only [Sm.fit, Bool.and_eq_true, decide_eq_true_eq] at hf'
        simp only [Sm.grow] at hs
        exact ckst_does does l c name es thn els hf (ih2 thn (by omega) hf'.1.2) (ih2 els (by omega) hf'.2)
    exact ⟨hst, fun l hl hf => block_ck (fun i h => ih1 _ (by have := Sm.grows_at i h; omega) (Sm.fits_at hf i h)) hf⟩
theorem blocks_ok (l : List Sm) (h : Sm.fits l = true) : BlOk l := (blocks_size (Sm.grows l)).2 l (Nat.le_refl _) h
end Go.Proofs.YtaomlahphlemdaaGreatDoor
