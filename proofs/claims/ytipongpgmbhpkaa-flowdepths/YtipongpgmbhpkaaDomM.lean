/-
  dom and flow as functions of lists.
-/
import Derived.Test.YtipongpgmbhpkaaDomD
namespace Go.Proofs.Ytipongpgmbhpkaa
set_option linter.unusedVariables false

/-! ### the walk -/
def gi (l : List Int) (i : Int) : Int := l.getD i.toNat 0
def gr (l : List (List Int)) (i : Int) : List Int := l.getD i.toNat []
structure WS where
  s : Wk
  path : List Int
  tried : List Int
def WS.step (outs : List (List Int)) (x : WS) : WS :=
  let b := x.path.getLastD 0
  let k := gi x.tried b
  if k = ((gr outs b).length : Int) then ⟨x.s, x.path.take (x.path.length - 1), x.tried⟩
  else
    let tt := gi (gr outs b) k
    let tried := x.tried.set b.toNat (k + 1)
    if 0 ≤ tt ∧ tt < (outs.length : Int) then ⟨x.s.goes b.toNat tt.toNat, if x.s.isNew tt.toNat then x.path ++ [tt] else x.path, tried⟩
    else ⟨x.s, x.path, tried⟩
def WS.run (outs : List (List Int)) : Nat → WS → WS
  | 0, x => x
  | k + 1, x => match x.path with
    | [] => x
    | _ :: _ => (x.step outs).run outs k
def edges (outs : List (List Int)) : Nat := (outs.map List.length).sum
def Wk.none (n : Nat) : Wk := ⟨List.replicate n (-1), [], []⟩
def WS.first (n : Nat) : WS := ⟨(Wk.none n).meet 0 0, [0], List.replicate n 0⟩
def walkedL (outs : List (List Int)) : Wk := ((WS.first outs.length).run outs (2 * edges outs + 2)).s

/-! ### the finder -/
structure Fn where
  hangs : List Int
  entry : List Int
  best : List Int
def upto (n : Nat) : List Int := (List.range n).map Int.ofNat
def Fn.new (n : Nat) : Fn := ⟨List.replicate n (-1), upto n, upto n⟩
def Fn.way (f : Fn) : Nat → Int → List Int
  | 0, _ => []
  | k + 1, u => if gi f.hangs (gi f.hangs u) = -1 then [] else u :: f.way k (gi f.hangs u)
def Fn.short (f : Fn) (u : Int) : Fn :=
  let on := gi f.hangs u
  let best := if gi f.entry (gi f.best on) < gi f.entry (gi f.best u) then f.best.set u.toNat (gi f.best on) else f.best
  ⟨f.hangs.set u.toNat (gi f.hangs on), f.entry, best⟩
def Fn.shorts (f : Fn) : List Int → Fn
  | [] => f
  | u :: us => (f.short u).shorts us
def Fn.least (f : Fn) (v : Int) : Int × Fn :=
  if gi f.hangs v = -1 then (v, f) else
    let g := f.shorts (f.way f.hangs.length v).reverse
    (gi g.best v, g)

/-! ### above -/
structure Ab where
  f : Fn
  out : List Int
  waiting : List (List Int)
def Ab.came (v : Int) (a : Ab) (src : Int) : Ab :=
  let r := a.f.least src
  ⟨⟨r.2.hangs, r.2.entry.set v.toNat (min (gi r.2.entry v) (gi r.2.entry r.1)), r.2.best⟩, a.out, a.waiting⟩
def Ab.wait (parent : Int) (a : Ab) (u : Int) : Ab :=
  let r := a.f.least u
  ⟨r.2, a.out.set u.toNat (if gi r.2.entry r.1 < gi r.2.entry u then r.1 else parent), a.waiting⟩
def Ab.round (w : Wk) (a : Ab) (v : Nat) : Ab :=
  let a1 := (gr w.ins v).foldl (Ab.came v) a
  let e := gi a1.f.entry v
  let wt := a1.waiting.set e.toNat (gr a1.waiting e ++ [(v : Int)])
  let parent := gi w.par v
  let a2 : Ab := ⟨⟨a1.f.hangs.set v parent, a1.f.entry, a1.f.best⟩, a1.out, wt⟩
  let a3 := (gr wt parent).foldl (Ab.wait parent) a2
  ⟨a3.f, a3.out, a3.waiting.set parent.toNat []⟩
def Ab.last (f : Fn) (out : List Int) (v : Nat) : List Int := if gi out v ≠ gi f.entry v then out.set v (gi out (gi out v)) else out
def down (n : Nat) : List Nat := ((List.range n).drop 1).reverse
def aboveL (w : Wk) : List Int :=
  let n := w.par.length
  let a := (down n).foldl (Ab.round w) ⟨Fn.new n, List.replicate n 0, List.replicate n []⟩
  ((List.range n).drop 1).foldl (Ab.last a.f) a.out

/-! ### the tree -/
structure Tr where
  place : List Int
  size : List Int
def sizeStep (above : List Int) (size : List Int) (v : Nat) : List Int :=
  let s1 := size.set v (gi size v + 1)
  if 0 < v then s1.set (gi above v).toNat (gi s1 (gi above v) + gi s1 v) else s1
def laidStep (above size : List Int) (x : List Int × List Int) (v : Nat) : List Int × List Int :=
  let x1 := if 0 < v then (x.1.set v (gi x.2 (gi above v)), x.2.set (gi above v).toNat (gi x.2 (gi above v) + gi size v)) else x
  (x1.1, x1.2.set v (gi x1.1 v + 1))
def treeL (w : Wk) (above : List Int) : Tr :=
  let n := above.length
  let size := (List.range n).reverse.foldl (sizeStep above) (List.replicate n 0)
  let x := (List.range n).foldl (laidStep above size) (List.replicate n 0, List.replicate n 0)
  ⟨w.num.map (fun v => if v = -1 then -1 else gi x.1 v), w.num.map (fun v => if v = -1 then 0 else gi size v)⟩
def ofL (outs : List (List Int)) : Tr := match outs with
  | [] => ⟨[], []⟩
  | _ :: _ => let w := walkedL outs; treeL w (aboveL w)
def Tr.over (t : Tr) (a b : Int) : Bool := decide (gi t.place a ≤ gi t.place b) && decide (gi t.place b < gi t.place a + gi t.size a)

/-! ### flow -/
structure Gr where
  outs : List (List Int)
  ins : List (List Int)
def Gr.way (src : Nat) (g : Gr) (tt : Int) : Gr :=
  if 0 ≤ tt ∧ tt < (g.outs.length : Int) then ⟨g.outs.set src (gr g.outs src ++ [tt]), g.ins.set tt.toNat (gr g.ins tt ++ [(src : Int)])⟩ else g
def graphL (ways : List (List Int)) : Gr := ways.zipIdx.foldl (fun g r => r.1.foldl (Gr.way r.2) g) ⟨ways.map (fun _ => []), ways.map (fun _ => [])⟩
structure OS where
  laid : List Int
  met : List Bool
  gone : List Int
  path : List Int
def OS.step (outs : List (List Int)) (x : OS) : OS :=
  let b := x.path.getLastD 0
  let k := gi x.gone b
  if k = ((gr outs b).length : Int) then ⟨x.laid ++ [b], x.met, x.gone, x.path.take (x.path.length - 1)⟩
  else
    let tt := gi (gr outs b) k
    let gone := x.gone.set b.toNat (k + 1)
    if x.met.getD tt.toNat false then ⟨x.laid, x.met, gone, x.path⟩ else ⟨x.laid, x.met.set tt.toNat true, gone, x.path ++ [tt]⟩
def OS.run (outs : List (List Int)) : Nat → OS → OS
  | 0, x => x
  | k + 1, x => match x.path with
    | [] => x
    | _ :: _ => (x.step outs).run outs k
def orderL (outs : List (List Int)) : List Int := match outs with
  | [] => []
  | _ :: _ => ((OS.mk [] ((List.replicate outs.length false).set 0 true) (List.replicate outs.length 0) [0]).run outs (2 * edges outs + 2 * outs.length)).laid.reverse
structure Lo where
  outer : List Int
  far : List Int
def Lo.farthest : Nat → List Int → Int → Int × List Int
  | 0, far, b => (b, far)
  | k + 1, far, b => if gi far b = b then (b, far) else
    let far1 := far.set b.toNat (gi far (gi far b))
    Lo.farthest k far1 (gi far1 b)
def Lo.find (t : Tr) (ins : List (List Int)) (top : Int) : Nat → List Int → Lo → Lo
  | 0, _, l => l
  | k + 1, left, l => match left with
    | [] => l
    | _ :: _ =>
      let r := Lo.farthest l.far.length l.far (left.getLastD 0)
      let left1 := left.take (left.length - 1)
      if r.1 = top then Lo.find t ins top k left1 ⟨l.outer, r.2⟩ else
        Lo.find t ins top k (left1 ++ (gr ins r.1).filter (fun b => t.over top b)) ⟨l.outer.set r.1.toNat top, r.2.set r.1.toNat top⟩
def depthsL (g : Gr) : List Int :=
  let n := g.outs.length
  let t := ofL g.outs
  let order := orderL g.outs
  let x := order.reverse.foldl (fun (x : Lo × List Bool) b =>
    let first := (gr g.ins b).filter (fun c => t.over b c)
    (Lo.find t g.ins b (2 * edges g.ins + n + 1) first x.1, x.2.set b.toNat (!first.isEmpty))) (⟨List.replicate n (-1), upto n⟩, List.replicate n false)
  order.foldl (fun d b =>
    let d1 := if gi x.1.outer b ≠ -1 then d.set b.toNat (gi d (gi x.1.outer b)) else d
    if x.2.getD b.toNat false then d1.set b.toNat (gi d1 b + 1) else d1) (List.replicate n 0)
def domsL (g : Gr) : List (List Bool) :=
  let t := ofL g.outs
  (upto g.outs.length).map fun b => (upto g.outs.length).map fun a => t.over a b
end Go.Proofs.Ytipongpgmbhpkaa
