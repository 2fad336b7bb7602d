/-
  Layer 6 as functions over trees: the plan that the writer lays, and what the runner does.
  The writer's memory: its block, its orders, its bodies, its maps; add, number, here.
  The writer: number, here, ahead, toHere, know, variable.
  The writer: know.
  The writer: either, whole, expr.
  The writer: whole, expr.
  The writer: every expression.
  The writer: block, over statements that are as they should be.
  The writer: choice, loop, every statement.
-/
import Derived.Test.YtaomlahphlemdaaGreatDoorChkS
namespace Go.Proofs.YtaomlahphlemdaaGreatDoor
open Go.ChangeShapes Go.WideShapes Go.ChangeAt Go.RowKit
set_option linter.unusedVariables false

/-- An order: its deed, its number. -/
structure Od where
  deed : Int
  n : Int
/-- A function's body: where it begins, its parameters, its words. -/
structure Bo where
  start : Int
  params : Int
  words : Int
/-- The writer. -/
structure Wr where
  orders : List Od
  bodies : List Bo
  gm : NMap
  fm : NMap
  words : NMap
  most : Int
def Wr.here (w : Wr) : Int := w.orders.length
def Wr.add (w : Wr) (d n : Int) : Wr := { w with orders := w.orders ++ [⟨d, n⟩] }
def setAt : List Od → Nat → Int → List Od
  | [], _, _ => []
  | o :: r, 0, n => ⟨o.deed, n⟩ :: r
  | o :: r, k + 1, n => o :: setAt r k n
def Wr.toHere (w : Wr) (k : Nat) : Wr := { w with orders := setAt w.orders k w.here }
def Wr.know (w : Wr) (x : List UInt8) : Wr := { w with words := (x, some (nsize w.words : Int)) :: w.words, most := max w.most ((nsize w.words : Int) + 1) }
def Wr.variable (w : Wr) (x : List UInt8) (l g : Int) : Wr :=
  match look w.words x with
  | some i => w.add l i
  | none => w.add g ((look w.gm x).getD 0)
mutual
def wrExpr : Ex → Wr → Wr
  | .mk kind line col num name op kids, w =>
    if kind = 1 then (w.add 0 0).add 1 num
    else if kind = 2 then (w.add 0 0).add 1 (if num = 0 then 0 else 1)
    else if kind = 3 then (w.add 0 0).variable name 2 4
    else if kind = 7 then wrEither 13 kids (w.add 0 0)
    else if kind = 8 then wrEither 14 kids (w.add 0 0)
    else if kind = 4 then (wrKids kids (w.add 0 0)).add 6 ((look (wrKids kids (w.add 0 0)).gm name).getD 0)
    else if kind = 5 then (wrKids kids (w.add 0 0)).add 15 ((look (wrKids kids (w.add 0 0)).fm name).getD 0)
    else if kind = 6 then (wrKids kids (w.add 0 0)).add 8 op
    else if kind = 9 then (wrKids kids (w.add 0 0)).add 9 0
    else wrKids kids (w.add 0 0)
def wrEither (d : Int) : List Ex → Wr → Wr
  | a :: b :: _, w => (wrExpr b ((wrExpr a w).add d 0)).toHere (wrExpr a w).orders.length
  | _, w => w
def wrKids : List Ex → Wr → Wr
  | [], w => w
  | e :: r, w => wrKids r (wrExpr e w)
end
def wrPart (es : List Ex) (i : Nat) (w : Wr) : Wr :=
  match es[i]? with
  | some e => wrExpr e w
  | none => w
def Wr.drops (w : Wr) : List (List UInt8) → Wr
  | [] => w
  | x :: r => Wr.drops { w with words := forget w.words x } r
mutual
def wrStmt : Sm → Wr → Wr
  | .mk does l k name es thn els, w0 =>
    let w := wrPart es 0 (w0.add 0 0)
    if does = 1 then (w.know name).add 3 (nsize w.words)
    else if does = 2 then w.variable name 3 5
    else if does = 3 then (wrPart es 1 w).add 7 ((look (wrPart es 1 w).gm name).getD 0)
    else if does = 4 then
      let a := ((wrStmts thn (w.add 12 0)).drops (letsOf thn))
      let b := (a.add 11 0).toHere w.orders.length
      ((wrStmts els b).drops (letsOf els)).toHere a.orders.length
    else if does = 5 then
      let a := ((wrStmts thn (w.add 12 0)).drops (letsOf thn))
      (a.add 11 (w0.add 0 0).here).toHere w.orders.length
    else if does = 6 then w.add 16 0
    else if does = 7 then w.add 10 0
    else w
def wrStmts : List Sm → Wr → Wr
  | [], w => w
  | s :: r, w => wrStmts r (wrStmt s w)
end
def wrBlock (l : List Sm) (w : Wr) : Wr := (wrStmts l w).drops (letsOf l)
def wrParams : List (List UInt8) → Wr → Wr
  | [], w => w
  | x :: r, w => wrParams r (w.know x)
def wrFunc (f : Fn) (w : Wr) : Wr :=
  let a := ((wrBlock f.body (wrParams f.params { w with words := [], most := 0 })).add 1 0).add 16 0
  { a with bodies := a.bodies ++ [⟨w.here, f.params.length, a.most⟩] }
def wrFuncs : List Fn → Wr → Wr
  | [], w => w
  | f :: r, w => wrFuncs r (wrFunc f w)
/-- laidFlat's plan. -/
def planOf (p : Pr) (gm fm : NMap) : Wr := wrFuncs p.funcs ⟨[], [], gm, fm, [], 0⟩

/-! How much is written. -/
mutual
def Sm.wt : Sm → Nat
  | .mk _ _ _ _ es thn els => 3 * Ex.sizes es + 4 + Sm.wts thn + Sm.wts els
def Sm.wts : List Sm → Nat
  | [] => 0
  | s :: r => s.wt + Sm.wts r
end
mutual
/-- What the writer asks for is there. -/
def Ex.good : Ex → Bool
  | .mk kind _ _ _ _ _ kids => (if kind = 7 ∨ kind = 8 then decide (2 ≤ kids.length) else true) && Ex.goods kids
def Ex.goods : List Ex → Bool
  | [] => true
  | e :: r => e.good && Ex.goods r
end
mutual
def Sm.good : Sm → Bool
  | .mk does _ _ _ es thn els => decide (1 ≤ es.length) && (if does = 3 then decide (2 ≤ es.length) else true) && Ex.goods es && Sm.goods thn && Sm.goods els
def Sm.goods : List Sm → Bool
  | [] => true
  | s :: r => s.good && Sm.goods r
end
theorem Ex.goods_at : ∀ {l : List Ex}, Ex.goods l = true → ∀ i (h : i < l.length), (l[i]).good = true
  | [], _, i, h => by simp at h
  | e :: r, hs, 0, h => by simp [Ex.goods] at hs; exact hs.1
  | e :: r, hs, i + 1, h => by simp [Ex.goods] at hs; exact Ex.goods_at hs.2 i (by simpa using h)
theorem Sm.goods_at : ∀ {l : List Sm}, Sm.goods l = true → ∀ i (h : i < l.length), (l[i]).good = true
  | [], _, i, h => by simp at h
  | e :: r, hs, 0, h => by simp [Sm.goods] at hs; exact hs.1
  | e :: r, hs, i + 1, h => by simp [Sm.goods] at hs; exact Sm.goods_at hs.2 i (by simpa using h)
theorem Sm.wts_at : ∀ {l : List Sm} (i : Nat) (h : i < l.length), (l[i]).wt ≤ Sm.wts l
  | [], i, h => by simp at h
  | e :: r, 0, h => by simp only [Sm.wts, List.getElem_cons_zero]; omega
  | e :: r, i + 1, h => by
    have := Sm.wts_at (l := r) i (by simpa using h)
    simp only [Sm.wts, List.getElem_cons_succ]; omega
theorem setAt_length : ∀ (l : List Od) (k : Nat) (n : Int), (setAt l k n).length = l.length
  | [], _, _ => rfl
  | o :: r, 0, n => rfl
  | o :: r, k + 1, n => by simp [setAt, setAt_length r k n]
/-- What writing does to the writer: so many orders more, at most; so many names. -/
structure Wrote (k k' : Wr) (n m : Nat) : Prop where
  lo : k.orders.length ≤ k'.orders.length
  hi : k'.orders.length ≤ k.orders.length + n
  bod : k'.bodies = k.bodies
  gm : k'.gm = k.gm
  fm : k'.fm = k.fm
  words : k'.words.length ≤ k.words.length + m
theorem Wrote.refl (k : Wr) : Wrote k k 0 0 := ⟨Nat.le_refl _, Nat.le_refl _, rfl, rfl, rfl, Nat.le_refl _⟩
theorem Wrote.trans {a b c : Wr} {n m x y : Nat} (h : Wrote a b n m) (i : Wrote b c x y) : Wrote a c (n + x) (m + y) :=
  ⟨Nat.le_trans h.lo i.lo, by have := h.hi; have := i.hi; omega, i.bod.trans h.bod, i.gm.trans h.gm, i.fm.trans h.fm, by have := h.words; have := i.words; omega⟩
theorem Wrote.more {a b : Wr} {n m x y : Nat} (h : Wrote a b n m) (hx : n ≤ x) (hy : m ≤ y) : Wrote a b x y := ⟨h.lo, by have := h.hi; omega, h.bod, h.gm, h.fm, by have := h.words; omega⟩
theorem wrote_add (k : Wr) (d n : Int) : Wrote k (k.add d n) 1 0 := ⟨by simp [Wr.add], by simp [Wr.add], rfl, rfl, rfl, Nat.le_refl _⟩
theorem wrote_here (k : Wr) (at_ : Nat) : Wrote k (k.toHere at_) 0 0 := ⟨by simp [Wr.toHere, setAt_length], by simp [Wr.toHere, setAt_length], rfl, rfl, rfl, Nat.le_refl _⟩
theorem wrote_know (k : Wr) (x : List UInt8) : Wrote k (k.know x) 0 1 := ⟨Nat.le_refl _, Nat.le_refl _, rfl, rfl, rfl, by simp [Wr.know]⟩
theorem wrote_var (k : Wr) (x : List UInt8) (l g : Int) : Wrote k (k.variable x l g) 1 0 := by unfold Wr.variable; split <;> exact wrote_add _ _ _
mutual
theorem wrote_expr : ∀ (e : Ex) (k : Wr), Wrote k (wrExpr e k) (3 * e.size) 0
  | .mk kind line col num name op kids, k => by
    have h0 := wrote_add k 0 0
    have hk := h0.trans (wrote_kids kids (k.add 0 0))
    rw [wrExpr, Ex.size]
    repeat' split
    all_goals first
      | exact (h0.trans (wrote_add _ _ _)).more (by omega) (by omega)
      | exact (h0.trans (wrote_var _ _ _ _)).more (by omega) (by omega)
      | exact (h0.trans (wrote_either _ kids _)).more (by omega) (by omega)
      | exact (hk.trans (wrote_add _ _ _)).more (by omega) (by omega)
      | exact hk.more (by omega) (by omega)
theorem wrote_either (d : Int) : ∀ (l : List Ex) (k : Wr), Wrote k (wrEither d l k) (1 + 3 * Ex.sizes l) 0
  | [], k => by rw [wrEither]; exact (Wrote.refl k).more (by omega) (by omega); all_goals simp
  | [a], k => by rw [wrEither]; exact (Wrote.refl k).more (by omega) (by omega); all_goals simp
  | a :: b :: r, k => by
    rw [wrEither, Ex.sizes, Ex.sizes]
    exact ((((wrote_expr a k).trans (wrote_add _ d 0)).trans (wrote_expr b _)).trans (wrote_here _ _)).more (by omega) (by omega)
theorem wrote_kids : ∀ (l : List Ex) (k : Wr), Wrote k (wrKids l k) (3 * Ex.sizes l) 0
  | [], k => by rw [wrKids]; exact (Wrote.refl k).more (by omega) (by omega)
  | e :: r, k => by rw [wrKids, Ex.sizes]; exact ((wrote_expr e k).trans (wrote_kids r _)).more (by omega) (by omega)
end
theorem wrote_part (es : List Ex) (i : Nat) (k : Wr) : Wrote k (wrPart es i k) (3 * Ex.sizes es) 0 := by
  unfold wrPart
  split
  · rename_i e he
    obtain ⟨h, rfl⟩ := List.getElem?_eq_some_iff.1 he
    exact (wrote_expr _ k).more (by have := Ex.sizes_get es i h; omega) (by omega)
  · exact (Wrote.refl k).more (by omega) (by omega)
theorem wrote_drops : ∀ (l : List (List UInt8)) (k : Wr), Wrote k (k.drops l) 0 l.length
  | [], k => Wrote.refl k
  | x :: r, k => by
    rw [Wr.drops]
    have h : Wrote k { k with words := forget k.words x } 0 1 := ⟨Nat.le_refl _, Nat.le_refl _, rfl, rfl, rfl, by simp [forget]⟩
    exact (h.trans (wrote_drops r _)).more (by omega) (by simp; omega)
end Go.Proofs.YtaomlahphlemdaaGreatDoor

namespace Go.Proofs.YtaomlahphlemdaaGreatDoor
open Go.ChangeShapes Go.WideShapes Go.ChangeAt Go.RowKit
set_option linter.unusedVariables false

def odV (o : Od) : List Value := [.int .i64 o.deed, .int .i64 o.n]
def odCells (l : List Od) : List Value := l.flatMap odV
def boV (b : Bo) : List Value := [.int .i64 b.start, .int .i64 b.params, .int .i64 b.words]
def boCells (l : List Bo) : List Value := l.flatMap boV
def cellsW (ov bv : Value) (G F : Nat) (M : Option Nat) (k : Wr) : Array Value := #[ov, bv, .map (some G), .map (some F), .map M, .int .i64 k.most]
theorem own_keep {w w' : World} {B : Nat} {e : TypeId} {s n : Nat} {v : Value} {xs : List Value} (h : w.ownsRow B e s v n xs) (hk : ∀ q, v.ownBlock = some q → w'.heap[q]? = w.heap[q]?) : w'.ownsRow B e s v n xs := by
  refine ⟨h.1, ?_⟩
  rcases h.2 with hn | ⟨g, cap, cur, rfl, hb, hgg, rest⟩
  · exact .inl hn
  · exact .inr ⟨g, cap, cur, rfl, hb, (hk g rfl).trans hgg, rest⟩
theorem own_ne {w : World} {B b : Nat} {e t : TypeId} {s n : Nat} {v : Value} {xs : List Value} {cs : Array Value} {z : Nat × Nat} (h : w.ownsRow B e s v n xs) (hb : w.heap[b]? = some (.cells cs t z)) (het : e ≠ t) : ∀ q, v.ownBlock = some q → q ≠ b := by
  intro q hq hqb
  subst hqb
  rcases h.2 with ⟨rfl, _⟩ | ⟨g, cap, cur, rfl, _, hgg, _⟩
  · cases hq
  · cases hq; rw [hgg] at hb; cases hb; exact het rfl
theorem own_ne2 {w : World} {B B2 : Nat} {e e2 : TypeId} {s s2 n n2 : Nat} {v v2 : Value} {xs xs2 : List Value} (h : w.ownsRow B e s v n xs) (h2 : w.ownsRow B2 e2 s2 v2 n2 xs2) (het : e ≠ e2) : ∀ q, v.ownBlock = some q → v2.ownBlock ≠ some q := by
  intro q hq hq2
  rcases h2.2 with ⟨rfl, _⟩ | ⟨g, cap, cur, rfl, _, hgg, _⟩
  · cases hq2
  · cases hq2; exact own_ne h hgg het _ hq rfl
theorem own_map {w : World} {B L : Nat} {e t : TypeId} {s n : Nat} {v : Value} {xs : List Value} {m : NMap} (h : w.ownsRow B e s v n xs) (hm : NM t w L m) : v.ownBlock ≠ some L := by
  intro hq
  rcases h.2 with ⟨rfl, _⟩ | ⟨g, cap, cur, rfl, _, hgg, _⟩
  · cases hq
  · cases hq; exact map_ne hm hgg rfl
theorem own_slice {w : World} {B : Nat} {e : TypeId} {s n : Nat} {v : Value} {xs : List Value} (h : w.ownsRow B e s v n xs) : ∃ a cap, v = .slice a n cap ∧ n ≤ cap := by
  rcases h.2 with ⟨rfl, rfl⟩ | ⟨g, cap, cur, rfl, _, _, hn, _⟩
  · exact ⟨_, _, rfl, Nat.le_refl _⟩
  · exact ⟨_, _, rfl, hn⟩
/-- Block Wb is the writer: the trees lie below B, its own blocks do not. -/
structure Writes (B Wb : Nat) (M : Option Nat) (G F : Nat) (ov bv : Value) (k : Wr) (w : World) : Prop where
  blk : w.heap[Wb]? = some (.cells (cellsW ov bv G F M k) 112 (0, 0))
  ord : w.ownsRow B 120 2 ov k.orders.length (odCells k.orders)
  bod : w.ownsRow B 115 3 bv k.bodies.length (boCells k.bodies)
  gm : NM 3 w G k.gm
  fm : NM 3 w F k.fm
  wm : ∀ L, M = some L → NM 3 w L k.words ∧ B ≤ L ∧ L ≠ G ∧ L ≠ F
  low : B ≤ Wb
/-- The blocks that writing may turn. -/
def WX (Wb : Nat) (M : Option Nat) (ov : Value) (q : Nat) : Prop := q = Wb ∨ M = some q ∨ ov.ownBlock = some q
structure WentW (Wb : Nat) (M : Option Nat) (ov ov' : Value) (w w' : World) : Prop where
  turn : Turn (WX Wb M ov) w w'
  own : ∀ q, ov'.ownBlock = some q → ov.ownBlock = some q ∨ w.heap.size ≤ q
theorem Turn.trans' {X Y : Nat → Prop} {a b c : World} (h : Turn X a b) (k : Turn Y b c) (hY : ∀ q, q < a.heap.size → Y q → X q) : Turn X a c :=
  ⟨k.os.trans h.os, k.tape.trans h.tape, k.output.trans h.output, Nat.le_trans h.size k.size, fun q hq hx => (k.block q (Nat.lt_of_lt_of_le hq h.size) (fun hy => hx (hY q hq hy))).trans (h.block q hq hx)⟩
theorem WentW.refl (Wb : Nat) (M : Option Nat) (ov : Value) (w : World) : WentW Wb M ov ov w w := ⟨Turn.refl _ _, fun q h => .inl h⟩
theorem WentW.trans {Wb : Nat} {M : Option Nat} {o1 o2 o3 : Value} {a b c : World} (h : WentW Wb M o1 o2 a b) (k : WentW Wb M o2 o3 b c) : WentW Wb M o1 o3 a c :=
  ⟨h.turn.trans' k.turn (fun q hq hy => by
    rcases hy with hy | hy | hy
    · exact .inl hy
    · exact .inr (.inl hy)
    · rcases h.own q hy with h1 | h1
      · exact .inr (.inr h1)
      · omega), fun q hq => by
    rcases k.own q hq with h1 | h1
    · exact h.own q h1
    · have := h.turn.size; exact .inr (by omega)⟩
theorem WentW.alloc {Wb : Nat} {M : Option Nat} {o1 o2 : Value} {a b : World} (h : WentW Wb M o1 o2 a b) (o : Obj) : WentW Wb M o1 o2 a (b.alloc o) := ⟨h.turn.alloc o, h.own⟩
theorem WentW.drew {Wb : Nat} {M : Option Nat} {o1 o2 : Value} {a b : World} (h : WentW Wb M o1 o2 a b) : WentW Wb M o1 o2 a b.drew := ⟨h.turn.drew, h.own⟩
theorem Writes.lt {B Wb : Nat} {M : Option Nat} {G F : Nat} {ov bv : Value} {k : Wr} {w : World} (h : Writes B Wb M G F ov bv k w) : Wb < w.heap.size := (Array.getElem?_eq_some_iff.1 h.blk).1
theorem Writes.keep {B Wb : Nat} {M : Option Nat} {G F : Nat} {ov bv : Value} {k : Wr} {w w' : World} (h : Writes B Wb M G F ov bv k w) {X : Nat → Prop} (ht : Turn X w w') (hX : ∀ q, X q → q ≠ Wb ∧ M ≠ some q ∧ q ≠ G ∧ q ≠ F ∧ ov.ownBlock ≠ some q ∧ bv.ownBlock ≠ some q) : Writes B Wb M G F ov bv k w' :=
  ⟨(ht.block Wb h.lt (fun q => (hX _ q).1 rfl)).trans h.blk, own_keep h.ord (fun q hq => ht.block q (h.ord.lt q hq).2 (fun x => (hX q x).2.2.2.2.1 hq)), own_keep h.bod (fun q hq => ht.block q (h.bod.lt q hq).2 (fun x => (hX q x).2.2.2.2.2 hq)),
   h.gm.keep (ht.block G h.gm.lt (fun x => (hX _ x).2.2.1 rfl)), h.fm.keep (ht.block F h.fm.lt (fun x => (hX _ x).2.2.2.1 rfl)),
   fun L hL => ⟨(h.wm L hL).1.keep (ht.block L (h.wm L hL).1.lt (fun x => (hX _ x).2.1 hL)), (h.wm L hL).2⟩, h.low⟩
theorem Writes.alloc {B Wb : Nat} {M : Option Nat} {G F : Nat} {ov bv : Value} {k : Wr} {w : World} (h : Writes B Wb M G F ov bv k w) (o : Obj) : Writes B Wb M G F ov bv k (w.alloc o) :=
  h.keep (X := fun _ => False) (Turn.grown (grown_alloc w o) (fun _ q => by cases q)) (fun _ q => q.elim)
theorem Writes.drew {B Wb : Nat} {M : Option Nat} {G F : Nat} {ov bv : Value} {k : Wr} {w : World} (h : Writes B Wb M G F ov bv k w) : Writes B Wb M G F ov bv k w.drew :=
  h.keep (X := fun _ => False) (Turn.refl _ w).drew (fun _ q => q.elim)
/-- Its cells, one by one. -/
theorem Writes.open {B Wb : Nat} {M : Option Nat} {G F : Nat} {ov bv : Value} {k : Wr} {w : World} (h : Writes B Wb M G F ov bv k w) :
    w.cell? ⟨Wb, 0, none⟩ = some ov ∧ w.cell? ⟨Wb, 1, none⟩ = some bv ∧ w.cell? ⟨Wb, 2, none⟩ = some (.map (some G)) ∧ w.cell? ⟨Wb, 3, none⟩ = some (.map (some F)) ∧ w.cell? ⟨Wb, 4, none⟩ = some (.map M) ∧ w.cell? ⟨Wb, 5, none⟩ = some (.int .i64 k.most) ∧ ∀ j, w.frozen? ⟨Wb, j, none⟩ = false := by
  refine ⟨?_, ?_, ?_, ?_, ?_, ?_, fun j => Lib.frozen_of_heap h.blk j⟩ <;> (rw [Lib.cell_of_heap h.blk]; rfl)
theorem infoOrder : (Tryz.prog.info? 120).map (fun i => (i.zero, i.size, i.bytes)) = some (some (.agg #[.int .i64 0, .int .i64 0]), 2, 16) := by kernel_rfl
theorem odCells_snoc (l : List Od) (o : Od) : odCells (l ++ [o]) = odCells l ++ odV o := by simp [odCells]
/-- An order more. -/
theorem Writes.more {B Wb : Nat} {M : Option Nat} {G F : Nat} {ov bv ov' : Value} {k : Wr} {w w' : World} (h : Writes B Wb M G F ov bv k w) (d n : Int) (hg : w.grownBy w' ov.ownBlock)
    (ho : w'.ownsRow B 120 2 ov' (k.orders.length + 1) (odCells k.orders ++ odV ⟨d, n⟩)) : Writes B Wb M G F ov' bv (k.add d n) (w'.setCell ⟨Wb, 0, none⟩ ov') ∧ Turn (WX Wb M ov) w (w'.setCell ⟨Wb, 0, none⟩ ov') := by
  have hb : ∀ q, q < w.heap.size → ov.ownBlock ≠ some q → w'.heap[q]? = w.heap[q]? := fun q hq hne => hg.block q hq (fun e => hne e.symm)
  have hW := h.lt
  have hWb : w'.heap[Wb]? = some (.cells (cellsW ov bv G F M k) 112 (0, 0)) := (hb Wb hW (fun e => own_ne h.ord h.blk (by decide) _ e rfl)).trans h.blk
  have hs : ∀ q, q ≠ Wb → (w'.setCell ⟨Wb, 0, none⟩ ov').heap[q]? = w'.heap[q]? := fun q hq => Below.heap_setCell _ _ _ _ hq
  refine ⟨⟨?_, ?_, ?_, ?_, ?_, ?_, h.low⟩, ?_⟩
  · rw [set_block _ _ _ _ _ _ hWb]; rfl
  · have : (k.add d n).orders.length = k.orders.length + 1 := by simp [Wr.add]
    rw [this, show (k.add d n).orders = k.orders ++ [⟨d, n⟩] from rfl, odCells_snoc]
    exact own_keep ho (fun q hq => hs q (own_ne ho hWb (by decide) q hq))
  · exact own_keep h.bod (fun q hq => (hs q (own_ne h.bod h.blk (by decide) q hq)).trans (hb q (h.bod.lt q hq).2 (own_ne2 h.bod h.ord (by decide) q hq)))
  · exact h.gm.keep ((hs G (map_ne h.gm h.blk)).trans (hb G h.gm.lt (own_map h.ord h.gm)))
  · exact h.fm.keep ((hs F (map_ne h.fm h.blk)).trans (hb F h.fm.lt (own_map h.ord h.fm)))
  · intro L hL
    obtain ⟨h1, h2⟩ := h.wm L hL
    exact ⟨h1.keep ((hs L (map_ne h1 h.blk)).trans (hb L h1.lt (own_map h.ord h1))), h2⟩
  · refine ⟨hg.os, hg.tape, hg.output, by have := hg.size; simpa using this, fun q hq hx => ?_⟩
    exact (hs q (fun e => hx (.inl e))).trans (hb q hq (fun e => hx (.inr (.inr e))))
def WPost (B Wb : Nat) (M : Option Nat) (G F : Nat) (ov bv : Value) (k' : Wr) (v : Value) (w : World) (e : Ending) (w' : World) : Prop := e = .returned v ∧ ∃ ov', WentW Wb M ov ov' w w' ∧ Writes B Wb M G F ov' bv k' w'
theorem od_one (a b : Int) : ∀ u ∈ [Value.int .i64 a, .int .i64 b], u.oneCell' = true := by
  intro u hu
  simp only [List.mem_cons, List.not_mem_nil, or_false] at hu
  rcases hu with rfl | rfl <;> rfl
set_option maxHeartbeats 1000000 in
set_option maxRecDepth 100000 in
theorem wadd_any {B Wb : Nat} {M : Option Nat} {G F : Nat} {ov bv : Value} {k : Wr} {w : World} (h : Writes B Wb M G F ov bv k w) (hz : k.orders.length ≤ 1099511627776) (d n : Int) : Calls Tryz.prog 70 #[.pointer (some ⟨Wb, 0, none⟩), .int .i64 d, .int .i64 n] w (WPost B Wb M G F ov bv (k.add d n) (.tuple #[]) w) := by
  obtain ⟨i0, hi, hz0⟩ := Option.map_eq_some_iff.1 infoOrder
  obtain ⟨h1, h2, h3⟩ : i0.zero = some (.agg #[.int .i64 0, .int .i64 0]) ∧ i0.size = 2 ∧ i0.bytes = 16 := by simpa using hz0
  have HI := Lib.hid hi; have HZ0 := Lib.hid h1; have HZ1 := Lib.hid h2; have HZ2 := Lib.hid h3
  have HW := Lib.hid h
  have hWlt := h.lt
  have hB := h.low
  obtain ⟨c0, _, _, _, _, _, hf⟩ := h.open
  have f0 := hf 0
  obtain ⟨a, cap, rfl, _⟩ := own_slice h.ord
  clear h hf hi h1 h2 h3 hz0
  go_enter Tryz.func70, Tryz.ntmps70
  go_wp2_with (first | (at_builtin; refine wpList_append_lies _ rfl _ _ 85 rfl B 120 i0 (.agg #[.int .i64 0, .int .i64 0]) 2 16 Tryz.underlying85 HI.out HZ0.out HZ1.out HZ2.out rfl (by decide) _ k.orders.length (odCells k.orders) rfl ?hown ⟨w.heap.size, 0, none⟩ 1 1 [.int .i64 d, .int .i64 n] rfl rfl ?hnews (od_one _ _) (by decide) ?h63 ?hby ?hba (w.heap.size + 1) ?hH ?_))
  case hown => exact HW.out.ord.alloc _
  case hnews => exact cells_at _ [.int .i64 d, .int .i64 n] _ _ rfl
  case h63 => unfold maxLen; omega
  case hby => omega
  case hba => simp; omega
  case hH => simp
  intro b2 cap2 w4 hown4 hgr4 hat4 hlt4
  obtain ⟨hw, ht⟩ := (HW.out.alloc _).more d n hgr4 hown4
  have HW4 := Lib.hid hw; have HT4 := Lib.hid ht
  have hW4 : Wb < w4.heap.size := by have := hgr4.size; simp at this; omega
  have c4 : w4.cell? ⟨Wb, 0, none⟩ = some (.slice a k.orders.length cap) := (World.cell?_of_block (hgr4.block Wb (by simp; omega) (fun e => own_ne HW.out.ord HW.out.blk (by decide) _ e.symm rfl))).trans ((World.cell?_of_block (Below.heap_alloc w _ Wb hWlt)).trans c0)
  have f4 : w4.frozen? ⟨Wb, 0, none⟩ = false := (World.frozen?_of_block (hgr4.block Wb (by simp; omega) (fun e => own_ne HW.out.ord HW.out.blk (by decide) _ e.symm rfl))).trans ((World.frozen?_of_block (Below.heap_alloc w _ Wb hWlt)).trans f0)
  have HAT := Lib.hid hat4
  clear hw ht hown4 hgr4 hat4 c0 f0
  go_wp2_with (fail)
  go_end0
  refine ⟨rfl, _, ⟨?_, ?_⟩, HW4.out⟩
  · exact ((Turn.refl _ w).alloc _).trans HT4.out
  · intro q hq
    cases hq
    rcases HAT.out with h | h
    · exact .inl h
    · exact .inr (by show w.heap.size ≤ b2; omega)
end Go.Proofs.YtaomlahphlemdaaGreatDoor

namespace Go.Proofs.YtaomlahphlemdaaGreatDoor
open Go.ChangeShapes Go.WideShapes Go.ChangeAt Go.RowKit
set_option linter.unusedVariables false

set_option maxHeartbeats 1000000 in
set_option maxRecDepth 100000 in
theorem wnumber_any {B Wb : Nat} {M : Option Nat} {G F : Nat} {ov bv : Value} {k : Wr} {w : World} (h : Writes B Wb M G F ov bv k w) (hz : k.orders.length ≤ 1099511627776) (n : Int) : Calls Tryz.prog 69 #[.pointer (some ⟨Wb, 0, none⟩), .int .i64 n] w (WPost B Wb M G F ov bv (k.add 1 n) (.tuple #[]) w) := by
  obtain ⟨i0, hi, hz0⟩ := Option.map_eq_some_iff.1 infoOrder
  obtain ⟨h1, h2, h3⟩ : i0.zero = some (.agg #[.int .i64 0, .int .i64 0]) ∧ i0.size = 2 ∧ i0.bytes = 16 := by simpa using hz0
  have HI := Lib.hid hi; have HZ0 := Lib.hid h1; have HZ1 := Lib.hid h2; have HZ2 := Lib.hid h3
  have HW := Lib.hid h
  have hWlt := h.lt
  have hB := h.low
  obtain ⟨c0, _, _, _, _, _, hf⟩ := h.open
  have f0 := hf 0
  obtain ⟨a, cap, rfl, _⟩ := own_slice h.ord
  clear h hf hi h1 h2 h3 hz0
  go_enter Tryz.func69, Tryz.ntmps69
  go_wp2_with (first | (at_builtin; refine wpList_append_lies _ rfl _ _ 85 rfl B 120 i0 (.agg #[.int .i64 0, .int .i64 0]) 2 16 Tryz.underlying85 HI.out HZ0.out HZ1.out HZ2.out rfl (by decide) _ k.orders.length (odCells k.orders) rfl ?hown ⟨w.heap.size, 0, none⟩ 1 1 [.int .i64 1, .int .i64 n] rfl rfl ?hnews (od_one _ _) (by decide) ?h63 ?hby ?hba (w.heap.size + 1) ?hH ?_))
  case hown => exact HW.out.ord.alloc _
  case hnews => exact cells_at _ [.int .i64 1, .int .i64 n] _ _ rfl
  case h63 => unfold maxLen; omega
  case hby => omega
  case hba => simp; omega
  case hH => simp
  intro b2 cap2 w4 hown4 hgr4 hat4 hlt4
  obtain ⟨hw, ht⟩ := (HW.out.alloc _).more 1 n hgr4 hown4
  have HW4 := Lib.hid hw; have HT4 := Lib.hid ht
  have hW4 : Wb < w4.heap.size := by have := hgr4.size; simp at this; omega
  have c4 : w4.cell? ⟨Wb, 0, none⟩ = some (.slice a k.orders.length cap) := (World.cell?_of_block (hgr4.block Wb (by simp; omega) (fun e => own_ne HW.out.ord HW.out.blk (by decide) _ e.symm rfl))).trans ((World.cell?_of_block (Below.heap_alloc w _ Wb hWlt)).trans c0)
  have f4 : w4.frozen? ⟨Wb, 0, none⟩ = false := (World.frozen?_of_block (hgr4.block Wb (by simp; omega) (fun e => own_ne HW.out.ord HW.out.blk (by decide) _ e.symm rfl))).trans ((World.frozen?_of_block (Below.heap_alloc w _ Wb hWlt)).trans f0)
  have HAT := Lib.hid hat4
  clear hw ht hown4 hgr4 hat4 c0 f0
  go_wp2_with (fail)
  go_end0
  refine ⟨rfl, _, ⟨?_, ?_⟩, HW4.out⟩
  · exact ((Turn.refl _ w).alloc _).trans HT4.out
  · intro q hq
    cases hq
    rcases HAT.out with h | h
    · exact .inl h
    · exact .inr (by show w.heap.size ≤ b2; omega)
set_option maxHeartbeats 1000000 in
set_option maxRecDepth 100000 in
theorem where_any {B Wb : Nat} {M : Option Nat} {G F : Nat} {ov bv : Value} {k : Wr} {w : World} (h : Writes B Wb M G F ov bv k w) : Calls Tryz.prog 66 #[.pointer (some ⟨Wb, 0, none⟩)] w fun e w' => e = .returned (.int .i64 k.here) ∧ w' = w := by
  have hWlt := h.lt
  obtain ⟨c0, _⟩ := h.open
  obtain ⟨a, cap, rfl, _⟩ := own_slice h.ord
  clear h
  have HH := Lib.hid (show k.here = (k.orders.length : Int) from rfl)
  rw [HH.out]
  go_enter Tryz.func66, Tryz.ntmps66
  go_wp2_with (fail)
  go_ret
  exact ⟨rfl, rfl⟩
set_option maxHeartbeats 1000000 in
set_option maxRecDepth 100000 in
theorem wahead_any {B Wb : Nat} {M : Option Nat} {G F : Nat} {ov bv : Value} {k : Wr} {w : World} (h : Writes B Wb M G F ov bv k w) (hz : k.orders.length ≤ 1099511627776) (d : Int) : Calls Tryz.prog 128 #[.pointer (some ⟨Wb, 0, none⟩), .int .i64 d] w (WPost B Wb M G F ov bv (k.add d 0) (.int .i64 k.orders.length) w) := by
  have HW := Lib.hid h
  clear h
  go_enter Tryz.func128, Tryz.ntmps128
  go_wp2_with (fail)
  refine (wadd_any HW.out hz d 0).mono ?_
  rintro e w1 ⟨rfl, ov1, ht1, hw1⟩
  have HT1 := Lib.hid ht1; have HW1 := Lib.hid hw1
  clear ht1 hw1
  go_wp2_with (fail)
  refine (where_any HW1.out).mono ?_
  rintro e w2 ⟨rfl, rfl⟩
  have e1 : (k.add d 0).here = (k.orders.length : Int) + 1 := by simp [Wr.here, Wr.add]
  rw [e1]
  go_wp2_with (fail)
  go_ret
  exact ⟨by congr 3 <;> omega, ov1, HT1.out, HW1.out⟩
/-- One order's number is turned. -/
theorem setAt_cells : ∀ (l : List Od) (j : Nat) (n : Int), j < l.length → odCells (setAt l j n) = (odCells l).set (2 * j + 1) (.int .i64 n)
  | [], j, n, h => by simp at h
  | o :: r, 0, n, _ => by simp [odCells, setAt, odV]
  | o :: r, j + 1, n, h => by
    have ih := setAt_cells r j n (by simpa using h)
    have e : 2 * (j + 1) + 1 = (2 * j + 1) + 1 + 1 := by omega
    rw [e]
    simp only [odCells, setAt, List.flatMap_cons, odV, List.cons_append, List.nil_append, List.set_cons_succ] at ih ⊢
    rw [ih]
theorem Writes.place {B Wb : Nat} {M : Option Nat} {G F : Nat} {bv : Value} {g cap : Nat} {k : Wr} {w : World} (h : Writes B Wb M G F (.slice (some ⟨g, 0, none⟩) k.orders.length cap) bv k w) (j : Nat) (hj : j < k.orders.length) (n : Int) :
    ∀ k', k' = { k with orders := setAt k.orders j n } → Writes B Wb M G F (.slice (some ⟨g, 0, none⟩) k.orders.length cap) bv k' (w.setCell ⟨g, j * 2 + 1, none⟩ (.int .i64 n)) ∧ Turn (WX Wb M (.slice (some ⟨g, 0, none⟩) k.orders.length cap)) w (w.setCell ⟨g, j * 2 + 1, none⟩ (.int .i64 n)) := by
  rintro k' rfl
  have hs : ∀ q, q ≠ g → (w.setCell ⟨g, j * 2 + 1, none⟩ (.int .i64 n)).heap[q]? = w.heap[q]? := fun q hq => Below.heap_setCell _ _ _ _ hq
  have hgW : Wb ≠ g := fun e => own_ne h.ord h.blk (by decide) g rfl e.symm
  refine ⟨⟨?_, ?_, ?_, ?_, ?_, ?_, h.low⟩, ?_⟩
  · exact (hs Wb hgW).trans h.blk
  · rcases h.ord.2 with ⟨h1, _⟩ | ⟨g', cap', cur, h1, hb, hgg, hn, hc, hcs, htk⟩
    · cases h1
    · cases h1
      refine ⟨by have := h.ord.1; rw [setAt_cells _ _ _ hj]; simp [setAt_length]; simpa using this, .inr ⟨g, cap, cur.setIfInBounds (j * 2 + 1) (.int .i64 n), by simp [setAt_length], hb, set_block _ _ _ _ _ _ hgg, by simp [setAt_length]; exact hn, hc, by simpa using hcs, ?_⟩⟩
      simp only [setAt_length]
      rw [setAt_cells _ _ _ hj, ← htk, Array.toList_setIfInBounds, show 2 * j + 1 = j * 2 + 1 by omega, List.take_set]
  · exact own_keep h.bod (fun q hq => hs q (fun e => by subst e; exact own_ne2 h.ord h.bod (by decide) _ rfl hq))
  · exact h.gm.keep (hs G (fun e => by subst e; exact own_map h.ord h.gm rfl))
  · exact h.fm.keep (hs F (fun e => by subst e; exact own_map h.ord h.fm rfl))
  · intro L hL
    obtain ⟨h1, h2⟩ := h.wm L hL
    exact ⟨h1.keep (hs L (fun e => by subst e; exact own_map h.ord h1 rfl)), h2⟩
  · exact (Turn.refl _ w).put g _ _ (.inl (.inr (.inr rfl)))
theorem NM.get {T e : TypeId} {w : World} {B : Nat} {m : NMap} (he : WordE e) (ht : Tryz.prog.underlying T = some (.map 9 e)) (h : NM e w B m) {x : List UInt8} (hx : x.length ≤ maxLen) :
    (Instr.lookup T (.map (some B)) (.string ⟨x.toArray⟩) false).run Tryz.prog w = .ok (.int .i64 ((Go.Proofs.YtaomlahphlemdaaGreatDoor.look m x).getD 0)) w := by
  obtain ⟨D, hown, hsz, hD⟩ := h
  obtain ⟨c, hrun, hat, _⟩ := hown.lookup_int strKeyed ht he.under (he.zero w) (key_str hx)
  rw [(hD x).2] at hat
  have : (Go.Proofs.YtaomlahphlemdaaGreatDoor.look m x).getD 0 = c := by simpa using hat
  rw [this]
  exact hrun
set_option maxHeartbeats 2000000 in
set_option maxRecDepth 100000 in
theorem tohere_any {B Wb : Nat} {M : Option Nat} {G F : Nat} {ov bv : Value} {k : Wr} {w : World} (h : Writes B Wb M G F ov bv k w) (j : Nat) (hj : j < k.orders.length) : Calls Tryz.prog 129 #[.pointer (some ⟨Wb, 0, none⟩), .int .i64 j] w (WPost B Wb M G F ov bv (k.toHere j) (.tuple #[]) w) := by
  have HW := Lib.hid h
  have hWlt := h.lt
  obtain ⟨c0, _⟩ := h.open
  have hrow : ∃ g cap, ov = .slice (some ⟨g, 0, none⟩) k.orders.length cap ∧ k.orders.length ≤ cap ∧ k.orders.length ≤ maxLen ∧ g < w.heap.size ∧ w.cell? ⟨g, j * 2 + 1, none⟩ = some (.int .i64 (k.orders[j]).n) ∧ w.frozen? ⟨g, j * 2 + 1, none⟩ = false := by
    rcases h.ord.2 with ⟨_, h0⟩ | ⟨g, cap, cur, h1, hb, hgg, hn, hc, hcs, htk⟩
    · omega
    · refine ⟨g, cap, h1, hn, Nat.le_trans hn hc, (Array.getElem?_eq_some_iff.1 hgg).1, ?_, Lib.frozen_of_heap hgg _⟩
      have h2 := h.ord.cells (g := g) (by rw [h1]; rfl) (j * 2 + 1) (.int .i64 (k.orders[j]).n) (by
        have : ∀ (l : List Od) (i : Nat) (hi : i < l.length), (odCells l)[i * 2 + 1]? = some (.int .i64 (l[i]).n) := by
          intro l
          induction l with
          | nil => intro i hi; simp at hi
          | cons o r ih =>
            intro i hi
            cases i with
            | zero => simp [odCells, odV]
            | succ i =>
              have := ih i (by simpa using hi)
              rw [show (i + 1) * 2 + 1 = (i * 2 + 1) + 1 + 1 by omega]
              simpa [odCells, odV] using this
        exact this _ j hj)
      rwa [Go.WideShapes.add_plain, Nat.zero_add] at h2
  obtain ⟨g, cap, rfl, hcap, hmax, hgl, hcell, hfz⟩ := hrow
  have HP := Lib.hid (HW.out.drew.place j hj k.here _ rfl)
  have HE := Lib.hid (show k.toHere j = { k with orders := setAt k.orders j k.here } from rfl)
  unfold maxLen at hmax
  clear h
  go_enter Tryz.func129, Tryz.ntmps129
  go_region_with ((go_at_call 66; refine (where_any HW.out.drew).mono ?_; rintro e w9 ⟨rfl, rfl⟩))
  all_goals go_wp2_with (fail)
  all_goals go_end0
  all_goals exact ⟨rfl, _, ⟨(Turn.refl _ w).drew.trans HP.out.2, fun q hq => .inl hq⟩, by rw [HE.out]; exact HP.out.1⟩
set_option maxHeartbeats 1000000 in
set_option maxRecDepth 100000 in
theorem variable_w {B Wb L : Nat} {G F : Nat} {ov bv : Value} {k : Wr} {w : World} (h : Writes B Wb (some L) G F ov bv k w) (hz : k.orders.length ≤ 1099511627776) (x : List UInt8) (hx : x.length ≤ maxLen) (lo gl : Int) : Calls Tryz.prog 110 #[.pointer (some ⟨Wb, 0, none⟩), .string ⟨x.toArray⟩, .int .i64 lo, .int .i64 gl] w (WPost B Wb (some L) G F ov bv (k.variable x lo gl) (.tuple #[]) w) := by
  have HW := Lib.hid h
  have hWlt := h.lt
  obtain ⟨_, _, c2, c3, c4, _, _⟩ := h.open
  have l1 := (h.wm L rfl).1.look wInt uMapI hx
  have l2 := h.gm.get wInt uMapI hx
  have l3 := h.drew.gm.get wInt uMapI hx
  clear h
  cases hl : look k.words x with
  | some i =>
    have HE := Lib.hid (show k.variable x lo gl = k.add lo i by unfold Wr.variable; rw [hl])
    rw [hl] at l1
    simp only [Option.getD_some, Option.isSome_some] at l1
    rw [HE.out]
    clear hl HE
    go_enter Tryz.func110, Tryz.ntmps110
    go_wp2_with (fail)
    refine (wadd_any HW.out hz lo i).mono ?_
    rintro e w1 ⟨rfl, ov1, ht1, hw1⟩
    have HT1 := Lib.hid ht1; have HW1 := Lib.hid hw1
    clear ht1 hw1
    go_wp2_with (fail)
    go_end0
    exact ⟨rfl, ov1, HT1.out, HW1.out⟩
  | none =>
    have HE := Lib.hid (show k.variable x lo gl = k.add gl ((look k.gm x).getD 0) by unfold Wr.variable; rw [hl])
    rw [hl] at l1
    simp only [Option.getD_none, Option.isSome_none] at l1
    rw [HE.out]
    clear hl HE
    generalize (look k.gm x).getD 0 = y at *
    go_enter Tryz.func110, Tryz.ntmps110
    go_wp2_with (fail)
    refine (wadd_any HW.out hz gl y).mono ?_
    rintro e w1 ⟨rfl, ov1, ht1, hw1⟩
    have HT1 := Lib.hid ht1; have HW1 := Lib.hid hw1
    clear ht1 hw1
    go_wp2_with (fail)
    go_end0
    exact ⟨rfl, ov1, HT1.out, HW1.out⟩
end Go.Proofs.YtaomlahphlemdaaGreatDoor

namespace Go.Proofs.YtaomlahphlemdaaGreatDoor
open Go.ChangeShapes Go.WideShapes Go.ChangeAt Go.RowKit
set_option linter.unusedVariables false

/-- A name more. -/
theorem Writes.named {B Wb L : Nat} {G F : Nat} {ov bv : Value} {k : Wr} {w w' : World} (h : Writes B Wb (some L) G F ov bv k w) (hg : w.grownBy w' (some L)) (x : List UInt8) (v : Option Int) (m : Int) (hm : NM 3 w' L ((x, v) :: k.words)) :
    Writes B Wb (some L) G F ov bv { k with words := (x, v) :: k.words, most := m } (w'.setCell ⟨Wb, 5, none⟩ (.int .i64 m)) ∧ Turn (WX Wb (some L) ov) w (w'.setCell ⟨Wb, 5, none⟩ (.int .i64 m)) := by
  obtain ⟨hL, hLB, hLG, hLF⟩ := h.wm L rfl
  have hb : ∀ q, q < w.heap.size → q ≠ L → w'.heap[q]? = w.heap[q]? := fun q hq hne => hg.block q hq (by simpa using hne)
  have hs : ∀ q, q ≠ Wb → (w'.setCell ⟨Wb, 5, none⟩ (.int .i64 m)).heap[q]? = w'.heap[q]? := fun q hq => Below.heap_setCell _ _ _ _ hq
  have hWL : Wb ≠ L := (map_ne hL h.blk).symm
  have hWb : w'.heap[Wb]? = some (.cells (cellsW ov bv G F (some L) k) 112 (0, 0)) := (hb Wb h.lt hWL).trans h.blk
  refine ⟨⟨?_, ?_, ?_, ?_, ?_, ?_, h.low⟩, ?_⟩
  · rw [set_block _ _ _ _ _ _ hWb]; rfl
  · exact own_keep h.ord (fun q hq => (hs q (own_ne h.ord h.blk (by decide) q hq)).trans (hb q (h.ord.lt q hq).2 (fun e => by subst e; exact own_map h.ord hL hq)))
  · exact own_keep h.bod (fun q hq => (hs q (own_ne h.bod h.blk (by decide) q hq)).trans (hb q (h.bod.lt q hq).2 (fun e => by subst e; exact own_map h.bod hL hq)))
  · exact h.gm.keep ((hs G (map_ne h.gm h.blk)).trans (hb G h.gm.lt (Ne.symm hLG)))
  · exact h.fm.keep ((hs F (map_ne h.fm h.blk)).trans (hb F h.fm.lt (Ne.symm hLF)))
  · intro L' hL'
    cases hL'
    exact ⟨hm.keep (hs L hWL.symm), hLB, hLG, hLF⟩
  · refine ⟨hg.os, hg.tape, hg.output, by have := hg.size; simpa using this, fun q hq hx => ?_⟩
    exact (hs q (fun e => hx (.inl e))).trans (hb q hq (fun e => hx (.inr (.inl (by rw [e])))))
theorem nsize_le : ∀ m : NMap, nsize m ≤ m.length
  | [] => Nat.le_refl _
  | (x, some _) :: m => by have := nsize_le m; simp only [nsize, List.length_cons]; split <;> omega
  | (x, none) :: m => by have := nsize_le m; simp only [nsize, List.length_cons]; split <;> omega
set_option maxHeartbeats 1000000 in
set_option maxRecDepth 100000 in
theorem know_any {B Wb L : Nat} {G F : Nat} {ov bv : Value} {k : Wr} {w : World} (h : Writes B Wb (some L) G F ov bv k w) (hz : k.words.length ≤ 1000000) (x : List UInt8) (hx : x.length ≤ maxLen) : Calls Tryz.prog 67 #[.pointer (some ⟨Wb, 0, none⟩), .string ⟨x.toArray⟩] w (WPost B Wb (some L) G F ov bv (k.know x) (.int .i64 (nsize k.words)) w) := by
  have HW := Lib.hid h
  have hWlt := h.lt
  obtain ⟨_, _, c2, c3, c4, c5, hf⟩ := h.open
  have f5 := hf 5
  have hlen := (h.wm L rfl).1.len uMapI 3
  have hns := nsize_le k.words
  have HNS := Lib.hid (show (Lit.int .i64 (nsize k.words : Int)).wf = true from WalkArith.wf_i64 (by omega))
  obtain ⟨w9, hrun, hnm9, hgr9⟩ := (h.wm L rfl).1.put (v := (nsize k.words : Int)) wInt uMapI (by unfold maxLen; omega) hx HNS.out
  have HN9 := Lib.hid hnm9; have HG9 := Lib.hid hgr9
  have HE := Lib.hid (show k.know x = { k with words := (x, some (nsize k.words : Int)) :: k.words, most := max k.most ((nsize k.words : Int) + 1) } from rfl)
  have hmx : ∀ m, Writes B Wb (some L) G F ov bv { k with words := (x, some (nsize k.words : Int)) :: k.words, most := m } (w9.setCell ⟨Wb, 5, none⟩ (.int .i64 m)) ∧ Turn (WX Wb (some L) ov) w (w9.setCell ⟨Wb, 5, none⟩ (.int .i64 m)) := fun m => HW.out.named HG9.out x _ m HN9.out
  have HMX := Lib.hid hmx
  have hWL : Wb ≠ L := (map_ne (h.wm L rfl).1 h.blk).symm
  have d5 : w9.cell? ⟨Wb, 5, none⟩ = some (.int .i64 k.most) := (World.cell?_of_block (hgr9.block Wb hWlt (by simpa using hWL))).trans c5
  have g5 : w9.frozen? ⟨Wb, 5, none⟩ = false := (World.frozen?_of_block (hgr9.block Wb hWlt (by simpa using hWL))).trans f5
  have hl9 : Wb < w9.heap.size := Nat.lt_of_lt_of_le hWlt hgr9.size
  clear h hf hnm9 hgr9 hmx
  rw [HE.out]
  generalize k.most = mo at *
  generalize nsize k.words = ns at *
  by_cases hm : mo < (ns : Int) + 1
  · go_enter Tryz.func67, Tryz.ntmps67
    go_wp2_with (fail)
    go_ret
    have := HMX.out ((ns : Int) + 1)
    rw [show max mo ((ns : Int) + 1) = (ns : Int) + 1 by omega]
    exact ⟨rfl, ov, ⟨this.2, fun q hq => .inl hq⟩, this.1⟩
  · go_enter Tryz.func67, Tryz.ntmps67
    go_wp2_with (fail)
    go_ret
    have := HMX.out mo
    rw [show max mo ((ns : Int) + 1) = mo by omega]
    exact ⟨rfl, ov, ⟨this.2, fun q hq => .inl hq⟩, this.1⟩
end Go.Proofs.YtaomlahphlemdaaGreatDoor

namespace Go.Proofs.YtaomlahphlemdaaGreatDoor
open Go.ChangeShapes Go.WideShapes Go.ChangeAt Go.RowKit
set_option linter.unusedVariables false

theorem Writes.xlow {B Wb : Nat} {M : Option Nat} {G F : Nat} {ov bv : Value} {k : Wr} {w : World} (h : Writes B Wb M G F ov bv k w) : ∀ q, WX Wb M ov q → B ≤ q ∧ q < w.heap.size := by
  intro q hq
  rcases hq with rfl | hq | hq
  · exact ⟨h.low, h.lt⟩
  · exact ⟨(h.wm q hq).2.1, (h.wm q hq).1.lt⟩
  · exact h.ord.lt q hq
theorem Writes.box {B Wb : Nat} {M : Option Nat} {G F : Nat} {ov bv : Value} {k : Wr} {w w' : World} {o : Obj} (h : Writes B Wb M G F ov bv k w) (ht : Turn (WX Wb M ov) (w.alloc o) w') : w'.heap[w.heap.size]? = some o :=
  (ht.block w.heap.size (by simp) (fun hx => by have := (h.xlow _ hx).2; omega)).trans (alloc_at _ _ _ rfl)
/-- What expr promises of an expression. -/
def WEx (ex : Ex) : Prop := ∀ (B Wb L G F : Nat) (ov bv : Value) (k : Wr) (w : World) (cs : Array Value), Writes B Wb (some L) G F ov bv k w → k.orders.length + 3 * ex.size ≤ 1099511627776 → ex.At w (· < B) cs →
  Calls Tryz.prog 109 #[.pointer (some ⟨Wb, 0, none⟩), .agg cs] w (WPost B Wb (some L) G F ov bv (wrExpr ex k) (.tuple #[]) w)
theorem kids_turn {B g o : Nat} {es : List Ex} {w w' : World} {X : Nat → Prop} (hg : g < B) (hr : Ex.Row w (· < B) g o es) (ht : Turn X w w') (hX : ∀ q, X q → B ≤ q) : Ex.Row w' (· < B) g o es := by
  cases es with
  | nil => unfold Ex.Row; trivial
  | cons e r => exact Row.turn hg hr.lt hr ht hX
set_option maxHeartbeats 4000000 in
set_option maxRecDepth 100000 in
theorem either_any {kind line col num : Int} {name : List UInt8} {op : Int} {kids : List Ex} (h2 : 2 ≤ kids.length) (hex : ∀ i (h : i < kids.length), WEx kids[i]) {B Wb L G F : Nat} {ov bv : Value} {k : Wr} {w : World} (cs : Array Value) (d : Int) (h : Writes B Wb (some L) G F ov bv k w) (hz : k.orders.length + 1 + 3 * Ex.sizes kids ≤ 1099511627776) (hat : (Ex.mk kind line col num name op kids).At w (· < B) cs) :
    Calls Tryz.prog 126 #[.pointer (some ⟨Wb, 0, none⟩), .agg cs, .int .i64 d] w (WPost B Wb (some L) G F ov bv (wrEither d kids k) (.tuple #[]) w) := by
  obtain ⟨_, v, rfl, hk⟩ := at_kids_of hat
  obtain ⟨a, cap, rfl, hmx, hrow⟩ := kids_parts hk
  obtain ⟨g, o, rfl, hg, hcap, hr⟩ := hrow (by intro q; rw [q] at h2; simp at h2)
  have hgl : g < w.heap.size := by
    cases hq : kids with
    | nil => rw [hq] at h2; simp at h2
    | cons x r => rw [hq] at hr; exact hr.lt
  have HW := Lib.hid h; have HR := Lib.hid hr
  have HX0 := Lib.hid (hex 0 (by omega)); have HX1 := Lib.hid (hex 1 (by omega))
  have HS := Lib.hid (show (kids[0]).size + (kids[1]).size ≤ Ex.sizes kids by
    rcases kids with _ | ⟨x, _ | ⟨y, r⟩⟩
    · simp at h2
    · simp at h2
    · simp only [Ex.sizes, List.getElem_cons_zero, List.getElem_cons_succ]; omega)
  have HE := Lib.hid (show wrEither d kids k = (wrExpr kids[1] ((wrExpr kids[0] k).add d 0)).toHere (wrExpr kids[0] k).orders.length by
    rcases kids with _ | ⟨x, _ | ⟨y, r⟩⟩
    · simp at h2
    · simp at h2
    · rw [wrEither]; rfl)
  have hlt := h.lt
  have HLOW := Lib.hid (fun q hq => (h.xlow q hq).1)
  rw [HE.out]
  clear h hat hex hk hrow hr
  unfold cells7
  go_enter Tryz.func126, Tryz.ntmps126
  go_upto_region 1 with (fail)
  change Code.wp _ _ _ _ (w.alloc (.cells (cells7 kind line col num name op (.slice (some ⟨g, o, none⟩) kids.length cap)) 47))
  have hT0 : WentW Wb (some L) ov ov (w.alloc (.cells (cells7 kind line col num name op (.slice (some ⟨g, o, none⟩) kids.length cap)) 47)) (w.alloc (.cells (cells7 kind line col num name op (.slice (some ⟨g, o, none⟩) kids.length cap)) 47)) := .refl _ _ _ _
  have HBX := Lib.hid (fun (ov' : Value) (w' : World) (ht : WentW Wb (some L) ov ov' (w.alloc (.cells (cells7 kind line col num name op (.slice (some ⟨g, o, none⟩) kids.length cap)) 47)) w') => own7 (HW.out.box ht.turn))
  have HW0 := Lib.hid (HW.out.alloc (.cells (cells7 kind line col num name op (.slice (some ⟨g, o, none⟩) kids.length cap)) 47))
  have HR0 := Lib.hid (kids_turn hg HR.out ((Turn.refl (WX Wb (some L) ov) w).alloc (.cells (cells7 kind line col num name op (.slice (some ⟨g, o, none⟩) kids.length cap)) 47)) HLOW.out)
  have HTA := Lib.hid (show WentW Wb (some L) ov ov w (w.alloc (.cells (cells7 kind line col num name op (.slice (some ⟨g, o, none⟩) kids.length cap)) 47)) from (WentW.refl _ _ _ _).alloc _)
  have hs1 : w.heap.size < (w.alloc (.cells (cells7 kind line col num name op (.slice (some ⟨g, o, none⟩) kids.length cap)) 47)).heap.size := by simp
  generalize w.alloc (.cells (cells7 kind line col num name op (.slice (some ⟨g, o, none⟩) kids.length cap)) 47) = W at *
  obtain ⟨d0, d1, d2, d3, d4, d5, d6⟩ := HBX.out _ _ hT0
  obtain ⟨kd, ln2, cl, nu, nm, opp, xa, xn, xc, hkat, r0, r1, r2, r3, r4, r5, r6⟩ := kid_cells HR0.out 0 (by omega)
  simp only [Nat.zero_mul, Nat.add_zero] at r0 r1 r2 r3 r4 r5 r6
  have hgW : g < W.heap.size := by omega
  have HK := Lib.hid hkat
  clear hkat hT0
  go_wp2_with (fail)
  refine (HX0.out _ _ _ _ _ _ _ _ _ _ HW0.out (by have := HS.out; omega) HK.out).mono ?_
  rintro e w1 ⟨rfl, ov1, ht1, hw1⟩
  have hsz1 := ht1.turn.size
  have HT1 := Lib.hid ht1; have HW1 := Lib.hid hw1
  have HN1 := Lib.hid (wrote_expr kids[0] k)
  clear ht1 hw1 d0 d1 d2 d3 d4 d5 d6 r0 r1 r2 r3 r4 r5 r6
  go_wp2_with (fail)
  refine (wahead_any HW1.out (by have := HN1.out.hi; have := HS.out; omega) d).mono ?_
  rintro e w2 ⟨rfl, ov2, ht2, hw2⟩
  have hsz2 := ht2.turn.size
  have HT2 := Lib.hid (HT1.out.trans ht2); have HW2 := Lib.hid hw2
  have hR2 := kids_turn hg HR0.out HT2.out.turn HLOW.out
  obtain ⟨d0, d1, d2, d3, d4, d5, d6⟩ := HBX.out _ _ HT2.out
  obtain ⟨kd', ln2', cl', nu', nm', opp', xa', xn', xc', hkat, r0, r1, r2, r3, r4, r5, r6⟩ := kid_cells hR2 1 (by omega)
  simp only [Nat.one_mul] at r0 r1 r2 r3 r4 r5 r6
  have HK2 := Lib.hid hkat
  have hs2 : w.heap.size < w2.heap.size := by omega
  have hg2 : g < w2.heap.size := by omega
  clear ht2 hw2 hkat hR2
  go_wp2_with (fail)
  refine (HX1.out _ _ _ _ _ _ _ _ _ _ HW2.out (by have := HN1.out.hi; have := HS.out; have := (wrote_add (wrExpr kids[0] k) d 0).hi; omega) HK2.out).mono ?_
  rintro e w3 ⟨rfl, ov3, ht3, hw3⟩
  have HT3 := Lib.hid (HT2.out.trans ht3); have HW3 := Lib.hid hw3
  have HN3 := Lib.hid ((wrote_add (wrExpr kids[0] k) d 0).trans (wrote_expr kids[1] ((wrExpr kids[0] k).add d 0)))
  clear ht3 hw3 d0 d1 d2 d3 d4 d5 d6 r0 r1 r2 r3 r4 r5 r6
  go_wp2_with (fail)
  refine (tohere_any HW3.out (wrExpr kids[0] k).orders.length (by have h1 := (wrote_expr kids[1] ((wrExpr kids[0] k).add d 0)).lo; have h2 : ((wrExpr kids[0] k).add d 0).orders.length = (wrExpr kids[0] k).orders.length + 1 := (by simp [Wr.add]); omega)).mono ?_
  rintro e w4 ⟨rfl, ov4, ht4, hw4⟩
  have HT4 := Lib.hid (HT3.out.trans ht4); have HW4 := Lib.hid hw4
  clear ht4 hw4
  go_wp2_with (fail)
  go_end0
  exact ⟨rfl, ov4, HTA.out.trans HT4.out, HW4.out⟩
end Go.Proofs.YtaomlahphlemdaaGreatDoor

namespace Go.Proofs.YtaomlahphlemdaaGreatDoor
open Go.ChangeShapes Go.WideShapes Go.ChangeAt Go.RowKit
set_option linter.unusedVariables false

theorem wrKids_snoc : ∀ (l : List Ex) (e : Ex) (k : Wr), wrKids (l ++ [e]) k = wrExpr e (wrKids l k)
  | [], e, k => by simp [wrKids]
  | a :: l, e, k => by simp only [List.cons_append, wrKids]; exact wrKids_snoc l e _
def wkAt (kids : List Ex) (i : Nat) (k : Wr) : Wr := wrKids (kids.take i) k
theorem wkAt_succ {kids : List Ex} {i : Nat} (h : i < kids.length) (k : Wr) : wkAt kids (i + 1) k = wrExpr kids[i] (wkAt kids i k) := by
  unfold wkAt; rw [List.take_succ_eq_append_getElem h, wrKids_snoc]
theorem wkAt_all (kids : List Ex) (k : Wr) : wkAt kids kids.length k = wrKids kids k := by unfold wkAt; rw [List.take_length]
theorem sizes_append : ∀ (a b : List Ex), Ex.sizes (a ++ b) = Ex.sizes a + Ex.sizes b
  | [], b => by simp [Ex.sizes]
  | e :: r, b => by simp only [List.cons_append, Ex.sizes, sizes_append r b]; omega
theorem sizes_take {l : List Ex} {j : Nat} (h : j < l.length) : Ex.sizes (l.take j) + (l[j]).size ≤ Ex.sizes l := by
  have e : l = l.take j ++ l.drop j := (List.take_append_drop j l).symm
  have h2 : l.drop j = l[j] :: l.drop (j + 1) := List.drop_eq_getElem_cons h
  have h3 : Ex.sizes l = Ex.sizes (l.take j) + Ex.sizes (l.drop j) := by rw [← sizes_append, ← e]
  rw [h3, h2, Ex.sizes]; omega
/-- What an expression adds behind its kids. -/
def wrTail (kind : Int) (name : List UInt8) (op : Int) (k : Wr) : Wr :=
  if kind = 4 then k.add 6 ((look k.gm name).getD 0) else if kind = 5 then k.add 15 ((look k.fm name).getD 0) else if kind = 6 then k.add 8 op else if kind = 9 then k.add 9 0 else k
/-- whole, up to its loop's end: what is left is the tail. -/
def WholeAt (kind : Int) : Prop := ∀ (line col num : Int) (name : List UInt8) (op : Int) (kids : List Ex), name.length ≤ maxLen → (∀ i (h : i < kids.length), WEx kids[i]) → ∀ {B Wb L G F : Nat} {ov bv : Value} {k : Wr} {w : World} (cs : Array Value), Writes B Wb (some L) G F ov bv k w → k.orders.length + 1 + 3 * Ex.sizes kids ≤ 1099511627776 → (Ex.mk kind line col num name op kids).At w (· < B) cs →
    Calls Tryz.prog 127 #[.pointer (some ⟨Wb, 0, none⟩), .agg cs] w (WPost B Wb (some L) G F ov bv (wrTail kind name op (wrKids kids k)) (.tuple #[]) w)
set_option maxHeartbeats 4000000 in
set_option maxRecDepth 100000 in
theorem whole_index : WholeAt 4 := by
  intro line col num name op kids hn hex B Wb L G F ov bv k w cs h hz hat
  obtain ⟨_, v, rfl, hk⟩ := at_kids_of hat
  obtain ⟨a, cap, rfl, hmx, hrow⟩ := kids_parts hk
  have HW := Lib.hid h; have HEX := Lib.hid hex; have HROW := Lib.hid hrow; have HN := Lib.hid hn
  have hlt := h.lt
  have HLOW := Lib.hid (fun q hq => (h.xlow q hq).1)
  have HTL := Lib.hid (fun k : Wr => show wrTail 4 name op k = k.add 6 ((look k.gm name).getD 0) by simp [wrTail])
  rw [HTL.out]
  clear h hat hex hk hrow hn
  unfold cells7
  go_enter Tryz.func127, Tryz.ntmps127
  go_upto_region 1 with (fail)
  change Code.wp _ _ _ _ (w.alloc (.cells (cells7 4 line col num name op (.slice a kids.length cap)) 47))
  have hT0 : WentW Wb (some L) ov ov (w.alloc (.cells (cells7 4 line col num name op (.slice a kids.length cap)) 47)) (w.alloc (.cells (cells7 4 line col num name op (.slice a kids.length cap)) 47)) := .refl _ _ _ _
  have HBX := Lib.hid (fun (ov' : Value) (w' : World) (ht : WentW Wb (some L) ov ov' (w.alloc (.cells (cells7 4 line col num name op (.slice a kids.length cap)) 47)) w') => own7 (HW.out.box ht.turn))
  have HW0 := Lib.hid (HW.out.alloc (.cells (cells7 4 line col num name op (.slice a kids.length cap)) 47))
  have HTA := Lib.hid (show WentW Wb (some L) ov ov w (w.alloc (.cells (cells7 4 line col num name op (.slice a kids.length cap)) 47)) from (WentW.refl _ _ _ _).alloc _)
  have hs1 : w.heap.size < (w.alloc (.cells (cells7 4 line col num name op (.slice a kids.length cap)) 47)).heap.size := by simp
  generalize w.alloc (.cells (cells7 4 line col num name op (.slice a kids.length cap)) 47) = W at *
  have HT0 := Lib.hid hT0
  obtain ⟨d0, d1, d2, d3, d4, d5, d6⟩ := HBX.out _ _ hT0
  clear hT0
  go_wp2_with (fail)
  go_loopw [9] (fun i wr => ∃ j : Nat, j ≤ kids.length ∧ i = .int .i64 j ∧ ∃ ovj, WentW Wb (some L) ov ovj W wr ∧ Writes B Wb (some L) G F ovj bv (wkAt kids j k) wr) (fun i _ => kids.length - (intOf i).toNat)
  case atStart => exact ⟨0, Nat.zero_le _, rfl, ov, HT0.out, HW0.out⟩
  case round =>
    obtain ⟨j, hj, rfl, ovj, htr, hwr⟩ := hrel
    have HTR := Lib.hid htr; have HWR := Lib.hid hwr
    have hszr := htr.turn.size
    by_cases hjl : j < kids.length
    · have hne : kids ≠ [] := by intro q; rw [q] at hjl; simp at hjl
      obtain ⟨g, o, rfl, hg, hcap, hr⟩ := HROW.out hne
      have hgl : g < w.heap.size := by
        cases hq : kids with
        | nil => exact absurd hq hne
        | cons x r => rw [hq] at hr; exact hr.lt
      have hr2 := kids_turn hg (kids_turn hg hr HTA.out.turn HLOW.out) htr.turn HLOW.out
      obtain ⟨kd, ln, cl, nu, nm, opp, xa, xn, xc, hkat, r0, r1, r2, r3, r4, r5, r6⟩ := kid_cells hr2 j hjl
      have hgr : g < wr.heap.size := by omega
      have HKAT := Lib.hid hkat
      have HSUC := Lib.hid (wkAt_succ hjl k)
      have HE := Lib.hid (HEX.out j hjl)
      have HZ := Lib.hid (show (wkAt kids j k).orders.length + 3 * (kids[j]).size ≤ 1099511627776 by have h1 := (wrote_kids (kids.take j) k).hi; have h2 := sizes_take hjl; unfold wkAt; omega)
      clear htr hwr hr hr2 hkat hne
      generalize hKJ : kids[j] = kj at HKAT HSUC HE HZ
      clear hKJ
      go_wp2_with (fail)
      refine (HE.out _ _ _ _ _ _ _ _ _ _ (HWR.out.alloc _) HZ.out (At.alloc HKAT.out _)).mono ?_
      rintro e w2 ⟨rfl, ov2, ht2, hw2⟩
      have HT2 := Lib.hid ((HTR.out.alloc _).trans ht2); have HW2 := Lib.hid hw2
      clear ht2 hw2
      go_wp2_with (fail)
      go_roundw
      case rel => exact ⟨j + 1, by omega, by go_num, ov2, HT2.out, by rw [HSUC.out]; exact HW2.out⟩
      case measure => simp [intOf]; omega
    · obtain rfl : j = kids.length := by omega
      have HALL := Lib.hid (wkAt_all kids k)
      rw [HALL.out] at HWR
      obtain ⟨d0, d1, d2, d3, d4, d5, d6⟩ := HBX.out _ _ HTR.out
      have hs2 : w.heap.size < wr.heap.size := by omega
      have HZ := Lib.hid (show (wrKids kids k).orders.length ≤ 1099511627776 by have h1 := (wrote_kids kids k).hi; omega)
      clear htr hwr
      generalize wrKids kids k = kz at *
      obtain ⟨_, _, c2, c3, _, _, _⟩ := HWR.out.open
      have hwl := HWR.out.lt
      have hlk := HWR.out.drew.gm.get wInt uMapI HN.out
      generalize (look kz.gm name).getD 0 = y at *
      go_upto_region 8 with (fail)
      go_still_tail 9, (by kernel_rfl)
      change wpList _ _ _ _ _ wr.drew
      go_wp2_with (fail)
      refine (wadd_any HWR.out.drew HZ.out 6 y).mono ?_
      rintro e w2 ⟨rfl, ov2, ht2, hw2⟩
      have HT2 := Lib.hid (HTR.out.drew.trans ht2); have HW2 := Lib.hid hw2
      clear ht2 hw2
      go_wp2_with (fail)
      go_end0
      exact ⟨rfl, ov2, HTA.out.trans HT2.out, HW2.out⟩
set_option maxHeartbeats 4000000 in
set_option maxRecDepth 100000 in
theorem whole_call : WholeAt 5 := by
  intro line col num name op kids hn hex B Wb L G F ov bv k w cs h hz hat
  obtain ⟨_, v, rfl, hk⟩ := at_kids_of hat
  obtain ⟨a, cap, rfl, hmx, hrow⟩ := kids_parts hk
  have HW := Lib.hid h; have HEX := Lib.hid hex; have HROW := Lib.hid hrow; have HN := Lib.hid hn
  have hlt := h.lt
  have HLOW := Lib.hid (fun q hq => (h.xlow q hq).1)
  have HTL := Lib.hid (fun k : Wr => show wrTail 5 name op k = k.add 15 ((look k.fm name).getD 0) by simp [wrTail])
  rw [HTL.out]
  clear h hat hex hk hrow hn
  unfold cells7
  go_enter Tryz.func127, Tryz.ntmps127
  go_upto_region 1 with (fail)
  change Code.wp _ _ _ _ (w.alloc (.cells (cells7 5 line col num name op (.slice a kids.length cap)) 47))
  have hT0 : WentW Wb (some L) ov ov (w.alloc (.cells (cells7 5 line col num name op (.slice a kids.length cap)) 47)) (w.alloc (.cells (cells7 5 line col num name op (.slice a kids.length cap)) 47)) := .refl _ _ _ _
  have HBX := Lib.hid (fun (ov' : Value) (w' : World) (ht : WentW Wb (some L) ov ov' (w.alloc (.cells (cells7 5 line col num name op (.slice a kids.length cap)) 47)) w') => own7 (HW.out.box ht.turn))
  have HW0 := Lib.hid (HW.out.alloc (.cells (cells7 5 line col num name op (.slice a kids.length cap)) 47))
  have HTA := Lib.hid (show WentW Wb (some L) ov ov w (w.alloc (.cells (cells7 5 line col num name op (.slice a kids.length cap)) 47)) from (WentW.refl _ _ _ _).alloc _)
  have hs1 : w.heap.size < (w.alloc (.cells (cells7 5 line col num name op (.slice a kids.length cap)) 47)).heap.size := by simp
  generalize w.alloc (.cells (cells7 5 line col num name op (.slice a kids.length cap)) 47) = W at *
  have HT0 := Lib.hid hT0
  obtain ⟨d0, d1, d2, d3, d4, d5, d6⟩ := HBX.out _ _ hT0
  clear hT0
  go_wp2_with (fail)
  go_loopw [9] (fun i wr => ∃ j : Nat, j ≤ kids.length ∧ i = .int .i64 j ∧ ∃ ovj, WentW Wb (some L) ov ovj W wr ∧ Writes B Wb (some L) G F ovj bv (wkAt kids j k) wr) (fun i _ => kids.length - (intOf i).toNat)
  case atStart => exact ⟨0, Nat.zero_le _, rfl, ov, HT0.out, HW0.out⟩
  case round =>
    obtain ⟨j, hj, rfl, ovj, htr, hwr⟩ := hrel
    have HTR := Lib.hid htr; have HWR := Lib.hid hwr
    have hszr := htr.turn.size
    by_cases hjl : j < kids.length
    · have hne : kids ≠ [] := by intro q; rw [q] at hjl; simp at hjl
      obtain ⟨g, o, rfl, hg, hcap, hr⟩ := HROW.out hne
      have hgl : g < w.heap.size := by
        cases hq : kids with
        | nil => exact absurd hq hne
        | cons x r => rw [hq] at hr; exact hr.lt
      have hr2 := kids_turn hg (kids_turn hg hr HTA.out.turn HLOW.out) htr.turn HLOW.out
      obtain ⟨kd, ln, cl, nu, nm, opp, xa, xn, xc, hkat, r0, r1, r2, r3, r4, r5, r6⟩ := kid_cells hr2 j hjl
      have hgr : g < wr.heap.size := by omega
      have HKAT := Lib.hid hkat
      have HSUC := Lib.hid (wkAt_succ hjl k)
      have HE := Lib.hid (HEX.out j hjl)
      have HZ := Lib.hid (show (wkAt kids j k).orders.length + 3 * (kids[j]).size ≤ 1099511627776 by have h1 := (wrote_kids (kids.take j) k).hi; have h2 := sizes_take hjl; unfold wkAt; omega)
      clear htr hwr hr hr2 hkat hne
      generalize hKJ : kids[j] = kj at HKAT HSUC HE HZ
      clear hKJ
      go_wp2_with (fail)
      refine (HE.out _ _ _ _ _ _ _ _ _ _ (HWR.out.alloc _) HZ.out (At.alloc HKAT.out _)).mono ?_
      rintro e w2 ⟨rfl, ov2, ht2, hw2⟩
      have HT2 := Lib.hid ((HTR.out.alloc _).trans ht2); have HW2 := Lib.hid hw2
      clear ht2 hw2
      go_wp2_with (fail)
      go_roundw
      case rel => exact ⟨j + 1, by omega, by go_num, ov2, HT2.out, by rw [HSUC.out]; exact HW2.out⟩
      case measure => simp [intOf]; omega
    · obtain rfl : j = kids.length := by omega
      have HALL := Lib.hid (wkAt_all kids k)
      rw [HALL.out] at HWR
      obtain ⟨d0, d1, d2, d3, d4, d5, d6⟩ := HBX.out _ _ HTR.out
      have hs2 : w.heap.size < wr.heap.size := by omega
      have HZ := Lib.hid (show (wrKids kids k).orders.length ≤ 1099511627776 by have h1 := (wrote_kids kids k).hi; omega)
      clear htr hwr
      generalize wrKids kids k = kz at *
      obtain ⟨_, _, c2, c3, _, _, _⟩ := HWR.out.open
      have hwl := HWR.out.lt
      have hlk := HWR.out.drew.fm.get wInt uMapI HN.out
      generalize (look kz.fm name).getD 0 = y at *
      go_upto_region 10 with (fail)
      go_still_tail 9, (by kernel_rfl)
      change wpList _ _ _ _ _ wr.drew
      go_wp2_with (fail)
      refine (wadd_any HWR.out.drew HZ.out 15 y).mono ?_
      rintro e w2 ⟨rfl, ov2, ht2, hw2⟩
      have HT2 := Lib.hid (HTR.out.drew.trans ht2); have HW2 := Lib.hid hw2
      clear ht2 hw2
      go_wp2_with (fail)
      go_end0
      exact ⟨rfl, ov2, HTA.out.trans HT2.out, HW2.out⟩
set_option maxHeartbeats 4000000 in
set_option maxRecDepth 100000 in
theorem whole_both : WholeAt 6 := by
  intro line col num name op kids hn hex B Wb L G F ov bv k w cs h hz hat
  obtain ⟨_, v, rfl, hk⟩ := at_kids_of hat
  obtain ⟨a, cap, rfl, hmx, hrow⟩ := kids_parts hk
  have HW := Lib.hid h; have HEX := Lib.hid hex; have HROW := Lib.hid hrow; have HN := Lib.hid hn
  have hlt := h.lt
  have HLOW := Lib.hid (fun q hq => (h.xlow q hq).1)
  have HTL := Lib.hid (fun k : Wr => show wrTail 6 name op k = k.add 8 op by simp [wrTail])
  rw [HTL.out]
  clear h hat hex hk hrow hn
  unfold cells7
  go_enter Tryz.func127, Tryz.ntmps127
  go_upto_region 1 with (fail)
  change Code.wp _ _ _ _ (w.alloc (.cells (cells7 6 line col num name op (.slice a kids.length cap)) 47))
  have hT0 : WentW Wb (some L) ov ov (w.alloc (.cells (cells7 6 line col num name op (.slice a kids.length cap)) 47)) (w.alloc (.cells (cells7 6 line col num name op (.slice a kids.length cap)) 47)) := .refl _ _ _ _
  have HBX := Lib.hid (fun (ov' : Value) (w' : World) (ht : WentW Wb (some L) ov ov' (w.alloc (.cells (cells7 6 line col num name op (.slice a kids.length cap)) 47)) w') => own7 (HW.out.box ht.turn))
  have HW0 := Lib.hid (HW.out.alloc (.cells (cells7 6 line col num name op (.slice a kids.length cap)) 47))
  have HTA := Lib.hid (show WentW Wb (some L) ov ov w (w.alloc (.cells (cells7 6 line col num name op (.slice a kids.length cap)) 47)) from (WentW.refl _ _ _ _).alloc _)
  have hs1 : w.heap.size < (w.alloc (.cells (cells7 6 line col num name op (.slice a kids.length cap)) 47)).heap.size := by simp
  generalize w.alloc (.cells (cells7 6 line col num name op (.slice a kids.length cap)) 47) = W at *
  have HT0 := Lib.hid hT0
  obtain ⟨d0, d1, d2, d3, d4, d5, d6⟩ := HBX.out _ _ hT0
  clear hT0
  go_wp2_with (fail)
  go_loopw [9] (fun i wr => ∃ j : Nat, j ≤ kids.length ∧ i = .int .i64 j ∧ ∃ ovj, WentW Wb (some L) ov ovj W wr ∧ Writes B Wb (some L) G F ovj bv (wkAt kids j k) wr) (fun i _ => kids.length - (intOf i).toNat)
  case atStart => exact ⟨0, Nat.zero_le _, rfl, ov, HT0.out, HW0.out⟩
  case round =>
    obtain ⟨j, hj, rfl, ovj, htr, hwr⟩ := hrel
    have HTR := Lib.hid htr; have HWR := Lib.hid hwr
    have hszr := htr.turn.size
    by_cases hjl : j < kids.length
    · have hne : kids ≠ [] := by intro q; rw [q] at hjl; simp at hjl
      obtain ⟨g, o, rfl, hg, hcap, hr⟩ := HROW.out hne
      have hgl : g < w.heap.size := by
        cases hq : kids with
        | nil => exact absurd hq hne
        | cons x r => rw [hq] at hr; exact hr.lt
      have hr2 := kids_turn hg (kids_turn hg hr HTA.out.turn HLOW.out) htr.turn HLOW.out
      obtain ⟨kd, ln, cl, nu, nm, opp, xa, xn, xc, hkat, r0, r1, r2, r3, r4, r5, r6⟩ := kid_cells hr2 j hjl
      have hgr : g < wr.heap.size := by omega
      have HKAT := Lib.hid hkat
      have HSUC := Lib.hid (wkAt_succ hjl k)
      have HE := Lib.hid (HEX.out j hjl)
      have HZ := Lib.hid (show (wkAt kids j k).orders.length + 3 * (kids[j]).size ≤ 1099511627776 by have h1 := (wrote_kids (kids.take j) k).hi; have h2 := sizes_take hjl; unfold wkAt; omega)
      clear htr hwr hr hr2 hkat hne
      generalize hKJ : kids[j] = kj at HKAT HSUC HE HZ
      clear hKJ
      go_wp2_with (fail)
      refine (HE.out _ _ _ _ _ _ _ _ _ _ (HWR.out.alloc _) HZ.out (At.alloc HKAT.out _)).mono ?_
      rintro e w2 ⟨rfl, ov2, ht2, hw2⟩
      have HT2 := Lib.hid ((HTR.out.alloc _).trans ht2); have HW2 := Lib.hid hw2
      clear ht2 hw2
      go_wp2_with (fail)
      go_roundw
      case rel => exact ⟨j + 1, by omega, by go_num, ov2, HT2.out, by rw [HSUC.out]; exact HW2.out⟩
      case measure => simp [intOf]; omega
    · obtain rfl : j = kids.length := by omega
      have HALL := Lib.hid (wkAt_all kids k)
      rw [HALL.out] at HWR
      obtain ⟨d0, d1, d2, d3, d4, d5, d6⟩ := HBX.out _ _ HTR.out
      have hs2 : w.heap.size < wr.heap.size := by omega
      have HZ := Lib.hid (show (wrKids kids k).orders.length ≤ 1099511627776 by have h1 := (wrote_kids kids k).hi; omega)
      clear htr hwr
      generalize wrKids kids k = kz at *
      go_wp2_with (fail)
      refine (wadd_any HWR.out HZ.out 8 op).mono ?_
      rintro e w2 ⟨rfl, ov2, ht2, hw2⟩
      have HT2 := Lib.hid (HTR.out.trans ht2); have HW2 := Lib.hid hw2
      clear ht2 hw2
      go_wp2_with (fail)
      go_end0
      exact ⟨rfl, ov2, HTA.out.trans HT2.out, HW2.out⟩
set_option maxHeartbeats 4000000 in
set_option maxRecDepth 100000 in
theorem whole_not : WholeAt 9 := by
  intro line col num name op kids hn hex B Wb L G F ov bv k w cs h hz hat
  obtain ⟨_, v, rfl, hk⟩ := at_kids_of hat
  obtain ⟨a, cap, rfl, hmx, hrow⟩ := kids_parts hk
  have HW := Lib.hid h; have HEX := Lib.hid hex; have HROW := Lib.hid hrow; have HN := Lib.hid hn
  have hlt := h.lt
  have HLOW := Lib.hid (fun q hq => (h.xlow q hq).1)
  have HTL := Lib.hid (fun k : Wr => show wrTail 9 name op k = k.add 9 0 by simp [wrTail])
  rw [HTL.out]
  clear h hat hex hk hrow hn
  unfold cells7
  go_enter Tryz.func127, Tryz.ntmps127
  go_upto_region 1 with (fail)
  change Code.wp _ _ _ _ (w.alloc (.cells (cells7 9 line col num name op (.slice a kids.length cap)) 47))
  have hT0 : WentW Wb (some L) ov ov (w.alloc (.cells (cells7 9 line col num name op (.slice a kids.length cap)) 47)) (w.alloc (.cells (cells7 9 line col num name op (.slice a kids.length cap)) 47)) := .refl _ _ _ _
  have HBX := Lib.hid (fun (ov' : Value) (w' : World) (ht : WentW Wb (some L) ov ov' (w.alloc (.cells (cells7 9 line col num name op (.slice a kids.length cap)) 47)) w') => own7 (HW.out.box ht.turn))
  have HW0 := Lib.hid (HW.out.alloc (.cells (cells7 9 line col num name op (.slice a kids.length cap)) 47))
  have HTA := Lib.hid (show WentW Wb (some L) ov ov w (w.alloc (.cells (cells7 9 line col num name op (.slice a kids.length cap)) 47)) from (WentW.refl _ _ _ _).alloc _)
  have hs1 : w.heap.size < (w.alloc (.cells (cells7 9 line col num name op (.slice a kids.length cap)) 47)).heap.size := by simp
  generalize w.alloc (.cells (cells7 9 line col num name op (.slice a kids.length cap)) 47) = W at *
  have HT0 := Lib.hid hT0
  obtain ⟨d0, d1, d2, d3, d4, d5, d6⟩ := HBX.out _ _ hT0
  clear hT0
  go_wp2_with (fail)
  go_loopw [9] (fun i wr => ∃ j : Nat, j ≤ kids.length ∧ i = .int .i64 j ∧ ∃ ovj, WentW Wb (some L) ov ovj W wr ∧ Writes B Wb (some L) G F ovj bv (wkAt kids j k) wr) (fun i _ => kids.length - (intOf i).toNat)
  case atStart => exact ⟨0, Nat.zero_le _, rfl, ov, HT0.out, HW0.out⟩
  case round =>
    obtain ⟨j, hj, rfl, ovj, htr, hwr⟩ := hrel
    have HTR := Lib.hid htr; have HWR := Lib.hid hwr
    have hszr := htr.turn.size
    by_cases hjl : j < kids.length
    · have hne : kids ≠ [] := by intro q; rw [q] at hjl; simp at hjl
      obtain ⟨g, o, rfl, hg, hcap, hr⟩ := HROW.out hne
      have hgl : g < w.heap.size := by
        cases hq : kids with
        | nil => exact absurd hq hne
        | cons x r => rw [hq] at hr; exact hr.lt
      have hr2 := kids_turn hg (kids_turn hg hr HTA.out.turn HLOW.out) htr.turn HLOW.out
      obtain ⟨kd, ln, cl, nu, nm, opp, xa, xn, xc, hkat, r0, r1, r2, r3, r4, r5, r6⟩ := kid_cells hr2 j hjl
      have hgr : g < wr.heap.size := by omega
      have HKAT := Lib.hid hkat
      have HSUC := Lib.hid (wkAt_succ hjl k)
      have HE := Lib.hid (HEX.out j hjl)
      have HZ := Lib.hid (show (wkAt kids j k).orders.length + 3 * (kids[j]).size ≤ 1099511627776 by have h1 := (wrote_kids (kids.take j) k).hi; have h2 := sizes_take hjl; unfold wkAt; omega)
      clear htr hwr hr hr2 hkat hne
      generalize hKJ : kids[j] = kj at HKAT HSUC HE HZ
      clear hKJ
      go_wp2_with (fail)
      refine (HE.out _ _ _ _ _ _ _ _ _ _ (HWR.out.alloc _) HZ.out (At.alloc HKAT.out _)).mono ?_
      rintro e w2 ⟨rfl, ov2, ht2, hw2⟩
      have HT2 := Lib.hid ((HTR.out.alloc _).trans ht2); have HW2 := Lib.hid hw2
      clear ht2 hw2
      go_wp2_with (fail)
      go_roundw
      case rel => exact ⟨j + 1, by omega, by go_num, ov2, HT2.out, by rw [HSUC.out]; exact HW2.out⟩
      case measure => simp [intOf]; omega
    · obtain rfl : j = kids.length := by omega
      have HALL := Lib.hid (wkAt_all kids k)
      rw [HALL.out] at HWR
      obtain ⟨d0, d1, d2, d3, d4, d5, d6⟩ := HBX.out _ _ HTR.out
      have hs2 : w.heap.size < wr.heap.size := by omega
      have HZ := Lib.hid (show (wrKids kids k).orders.length ≤ 1099511627776 by have h1 := (wrote_kids kids k).hi; omega)
      clear htr hwr
      generalize wrKids kids k = kz at *
      go_wp2_with (fail)
      refine (wadd_any HWR.out HZ.out 9 0).mono ?_
      rintro e w2 ⟨rfl, ov2, ht2, hw2⟩
      have HT2 := Lib.hid (HTR.out.trans ht2); have HW2 := Lib.hid hw2
      clear ht2 hw2
      go_wp2_with (fail)
      go_end0
      exact ⟨rfl, ov2, HTA.out.trans HT2.out, HW2.out⟩
set_option maxHeartbeats 4000000 in
set_option maxRecDepth 100000 in
theorem whole_else (kind : Int) (h4 : kind ≠ 4) (h5 : kind ≠ 5) (h6 : kind ≠ 6) (h9 : kind ≠ 9) : WholeAt kind := by
  intro line col num name op kids hn hex B Wb L G F ov bv k w cs h hz hat
  obtain ⟨_, v, rfl, hk⟩ := at_kids_of hat
  obtain ⟨a, cap, rfl, hmx, hrow⟩ := kids_parts hk
  have HW := Lib.hid h; have HEX := Lib.hid hex; have HROW := Lib.hid hrow; have HN := Lib.hid hn
  have hlt := h.lt
  have HLOW := Lib.hid (fun q hq => (h.xlow q hq).1)
  have HTL := Lib.hid (fun k : Wr => show wrTail kind name op k = k by simp [wrTail, h4, h5, h6, h9])
  rw [HTL.out]
  have b4 : (kind == 4) = false := by simpa using h4
  have b5 : (kind == 5) = false := by simpa using h5
  have b6 : (kind == 6) = false := by simpa using h6
  have b9 : (kind == 9) = false := by simpa using h9
  clear h4 h5 h6 h9
  clear h hat hex hk hrow hn
  unfold cells7
  go_enter Tryz.func127, Tryz.ntmps127
  go_upto_region 1 with (fail)
  change Code.wp _ _ _ _ (w.alloc (.cells (cells7 kind line col num name op (.slice a kids.length cap)) 47))
  have hT0 : WentW Wb (some L) ov ov (w.alloc (.cells (cells7 kind line col num name op (.slice a kids.length cap)) 47)) (w.alloc (.cells (cells7 kind line col num name op (.slice a kids.length cap)) 47)) := .refl _ _ _ _
  have HBX := Lib.hid (fun (ov' : Value) (w' : World) (ht : WentW Wb (some L) ov ov' (w.alloc (.cells (cells7 kind line col num name op (.slice a kids.length cap)) 47)) w') => own7 (HW.out.box ht.turn))
  have HW0 := Lib.hid (HW.out.alloc (.cells (cells7 kind line col num name op (.slice a kids.length cap)) 47))
  have HTA := Lib.hid (show WentW Wb (some L) ov ov w (w.alloc (.cells (cells7 kind line col num name op (.slice a kids.length cap)) 47)) from (WentW.refl _ _ _ _).alloc _)
  have hs1 : w.heap.size < (w.alloc (.cells (cells7 kind line col num name op (.slice a kids.length cap)) 47)).heap.size := by simp
  generalize w.alloc (.cells (cells7 kind line col num name op (.slice a kids.length cap)) 47) = W at *
  have HT0 := Lib.hid hT0
  obtain ⟨d0, d1, d2, d3, d4, d5, d6⟩ := HBX.out _ _ hT0
  clear hT0
  go_wp2_with (fail)
  go_loopw [9] (fun i wr => ∃ j : Nat, j ≤ kids.length ∧ i = .int .i64 j ∧ ∃ ovj, WentW Wb (some L) ov ovj W wr ∧ Writes B Wb (some L) G F ovj bv (wkAt kids j k) wr) (fun i _ => kids.length - (intOf i).toNat)
  case atStart => exact ⟨0, Nat.zero_le _, rfl, ov, HT0.out, HW0.out⟩
  case round =>
    obtain ⟨j, hj, rfl, ovj, htr, hwr⟩ := hrel
    have HTR := Lib.hid htr; have HWR := Lib.hid hwr
    have hszr := htr.turn.size
    by_cases hjl : j < kids.length
    · have hne : kids ≠ [] := by intro q; rw [q] at hjl; simp at hjl
      obtain ⟨g, o, rfl, hg, hcap, hr⟩ := HROW.out hne
      have hgl : g < w.heap.size := by
        cases hq : kids with
        | nil => exact absurd hq hne
        | cons x r => rw [hq] at hr; exact hr.lt
      have hr2 := kids_turn hg (kids_turn hg hr HTA.out.turn HLOW.out) htr.turn HLOW.out
      obtain ⟨kd, ln, cl, nu, nm, opp, xa, xn, xc, hkat, r0, r1, r2, r3, r4, r5, r6⟩ := kid_cells hr2 j hjl
      have hgr : g < wr.heap.size := by omega
      have HKAT := Lib.hid hkat
      have HSUC := Lib.hid (wkAt_succ hjl k)
      have HE := Lib.hid (HEX.out j hjl)
      have HZ := Lib.hid (show (wkAt kids j k).orders.length + 3 * (kids[j]).size ≤ 1099511627776 by have h1 := (wrote_kids (kids.take j) k).hi; have h2 := sizes_take hjl; unfold wkAt; omega)
      clear htr hwr hr hr2 hkat hne
      generalize hKJ : kids[j] = kj at HKAT HSUC HE HZ
      clear hKJ
      go_wp2_with (fail)
      refine (HE.out _ _ _ _ _ _ _ _ _ _ (HWR.out.alloc _) HZ.out (At.alloc HKAT.out _)).mono ?_
      rintro e w2 ⟨rfl, ov2, ht2, hw2⟩
      have HT2 := Lib.hid ((HTR.out.alloc _).trans ht2); have HW2 := Lib.hid hw2
      clear ht2 hw2
      go_wp2_with (fail)
      go_roundw
      case rel => exact ⟨j + 1, by omega, by go_num, ov2, HT2.out, by rw [HSUC.out]; exact HW2.out⟩
      case measure => simp [intOf]; omega
    · obtain rfl : j = kids.length := by omega
      have HALL := Lib.hid (wkAt_all kids k)
      rw [HALL.out] at HWR
      obtain ⟨d0, d1, d2, d3, d4, d5, d6⟩ := HBX.out _ _ HTR.out
      have hs2 : w.heap.size < wr.heap.size := by omega
      have HZ := Lib.hid (show (wrKids kids k).orders.length ≤ 1099511627776 by have h1 := (wrote_kids kids k).hi; omega)
      clear htr hwr
      generalize wrKids kids k = kz at *
      go_wp2_with (fail)
      go_end0
      exact ⟨rfl, ovj, HTA.out.trans HTR.out, HWR.out⟩
theorem whole_kind (kind : Int) : WholeAt kind := by
  by_cases h4 : kind = 4
  · subst h4; exact whole_index
  by_cases h5 : kind = 5
  · subst h5; exact whole_call
  by_cases h6 : kind = 6
  · subst h6; exact whole_both
  by_cases h9 : kind = 9
  · subst h9; exact whole_not
  exact whole_else kind h4 h5 h6 h9
end Go.Proofs.YtaomlahphlemdaaGreatDoor

namespace Go.Proofs.YtaomlahphlemdaaGreatDoor
open Go.ChangeShapes Go.WideShapes Go.ChangeAt Go.RowKit
set_option linter.unusedVariables false

def tru (n : Int) : Int := if n = 0 then 0 else 1
def WExAt (kind : Int) : Prop := ∀ (line col num : Int) (name : List UInt8) (op : Int) (kids : List Ex), name.length ≤ maxLen → ((kind = 7 ∨ kind = 8) → 2 ≤ kids.length) → (∀ i (h : i < kids.length), WEx kids[i]) → WEx (.mk kind line col num name op kids)
theorem bool_true (w : World) : Calls Tryz.prog 20 #[.bool true] w fun e w' => e = .returned (.int .i64 1) ∧ w' = w := by
  go_enter Tryz.func20, Tryz.ntmps20; go_wp2_with (fail); go_ret; exact ⟨rfl, rfl⟩
theorem bool_false (w : World) : Calls Tryz.prog 20 #[.bool false] w fun e w' => e = .returned (.int .i64 0) ∧ w' = w := by
  go_enter Tryz.func20, Tryz.ntmps20; go_wp2_with (fail); go_ret; exact ⟨rfl, rfl⟩
set_option maxHeartbeats 2000000 in
set_option maxRecDepth 100000 in
theorem wex_num : WExAt 1 := by
  intro line col num name op kids hn hk2 hex B Wb L G F ov bv k w cs h hz hat
  simp only [Ex.size] at hz
  have HE := Lib.hid (show wrExpr (.mk 1 line col num name op kids) k = (k.add 0 0).add 1 num by simp [wrExpr])
  rw [HE.out]
  have HAT := Lib.hid hat
  obtain ⟨_, v, rfl, hk⟩ := at_kids_of hat
  obtain ⟨a, cap, rfl, hmx, _⟩ := kids_parts hk
  have HW := Lib.hid h; have HEX := Lib.hid hex; have HN := Lib.hid hn; have HK2 := Lib.hid hk2
  have HLOW := Lib.hid (fun q hq => (h.xlow q hq).1)
  have HZ := Lib.hid hz
  clear h hat hk hex hn hk2 HE
  unfold cells7
  go_enter Tryz.func109, Tryz.ntmps109
  go_wp2_with (fail)
  refine (wadd_any (HW.out.alloc _) (by have := HZ.out; omega) 0 0).mono ?_
  rintro e w1 ⟨rfl, ov1, ht1, hw1⟩
  obtain ⟨d0, d1, d2, d3, d4, d5, d6⟩ := own7 (HW.out.box ht1.turn)
  have hsz : w.heap.size < w1.heap.size := by have := ht1.turn.size; simp at this; omega
  have HT1 := Lib.hid (((WentW.refl Wb (some L) ov w).alloc _).trans ht1); have HW1 := Lib.hid hw1
  have HL1 := Lib.hid (show (k.add 0 0).orders.length = k.orders.length + 1 by simp [Wr.add])
  have HB1 := Lib.hid (HW.out.box ht1.turn)
  clear ht1 hw1
  generalize k.add 0 0 = k1 at *
  go_wp2_with (fail)
  refine (wnumber_any HW1.out (by have := HL1.out; have := HZ.out; omega) num).mono ?_
  rintro e w2 ⟨rfl, ov2, ht2, hw2⟩
  have HT2 := Lib.hid (HT1.out.trans ht2); have HW2 := Lib.hid hw2
  clear ht2 hw2
  go_wp2_with (fail)
  go_end0
  exact ⟨rfl, ov2, HT2.out, HW2.out⟩
set_option maxHeartbeats 2000000 in
set_option maxRecDepth 100000 in
theorem wex_truth : WExAt 2 := by
  intro line col num name op kids hn hk2 hex B Wb L G F ov bv k w cs h hz hat
  simp only [Ex.size] at hz
  have HE := Lib.hid (show wrExpr (.mk 2 line col num name op kids) k = (k.add 0 0).add 1 (tru num) by simp [wrExpr, tru])
  rw [HE.out]
  have HAT := Lib.hid hat
  obtain ⟨_, v, rfl, hk⟩ := at_kids_of hat
  obtain ⟨a, cap, rfl, hmx, _⟩ := kids_parts hk
  have HW := Lib.hid h; have HEX := Lib.hid hex; have HN := Lib.hid hn; have HK2 := Lib.hid hk2
  have HLOW := Lib.hid (fun q hq => (h.xlow q hq).1)
  have HZ := Lib.hid hz
  clear h hat hk hex hn hk2 HE
  unfold cells7
  go_enter Tryz.func109, Tryz.ntmps109
  go_wp2_with (fail)
  refine (wadd_any (HW.out.alloc _) (by have := HZ.out; omega) 0 0).mono ?_
  rintro e w1 ⟨rfl, ov1, ht1, hw1⟩
  obtain ⟨d0, d1, d2, d3, d4, d5, d6⟩ := own7 (HW.out.box ht1.turn)
  have hsz : w.heap.size < w1.heap.size := by have := ht1.turn.size; simp at this; omega
  have HT1 := Lib.hid (((WentW.refl Wb (some L) ov w).alloc _).trans ht1); have HW1 := Lib.hid hw1
  have HL1 := Lib.hid (show (k.add 0 0).orders.length = k.orders.length + 1 by simp [Wr.add])
  have HB1 := Lib.hid (HW.out.box ht1.turn)
  clear ht1 hw1
  generalize k.add 0 0 = k1 at *
  by_cases hq : num = 0
  · have q1 : (num != 0) = false := by simpa using hq
    have HB := Lib.hid (show tru num = 0 by simp [tru, hq])
    clear hq
    go_wp2_with (fail)
    refine (bool_false _).mono ?_
    rintro e w9 ⟨rfl, rfl⟩
    go_wp2_with (fail)
    refine (wnumber_any HW1.out (by have := HL1.out; have := HZ.out; omega) 0).mono ?_
    rintro e w2 ⟨rfl, ov2, ht2, hw2⟩
    have HT2 := Lib.hid (HT1.out.trans ht2); have HW2 := Lib.hid hw2
    clear ht2 hw2
    go_wp2_with (fail)
    go_end0
    exact ⟨rfl, ov2, HT2.out, by rw [HB.out]; exact HW2.out⟩
  · have q1 : (num != 0) = true := by simpa using hq
    have HB := Lib.hid (show tru num = 1 by simp [tru, hq])
    clear hq
    go_wp2_with (fail)
    refine (bool_true _).mono ?_
    rintro e w9 ⟨rfl, rfl⟩
    go_wp2_with (fail)
    refine (wnumber_any HW1.out (by have := HL1.out; have := HZ.out; omega) 1).mono ?_
    rintro e w2 ⟨rfl, ov2, ht2, hw2⟩
    have HT2 := Lib.hid (HT1.out.trans ht2); have HW2 := Lib.hid hw2
    clear ht2 hw2
    go_wp2_with (fail)
    go_end0
    exact ⟨rfl, ov2, HT2.out, by rw [HB.out]; exact HW2.out⟩
set_option maxHeartbeats 2000000 in
set_option maxRecDepth 100000 in
theorem wex_var : WExAt 3 := by
  intro line col num name op kids hn hk2 hex B Wb L G F ov bv k w cs h hz hat
  simp only [Ex.size] at hz
  have HE := Lib.hid (show wrExpr (.mk 3 line col num name op kids) k = (k.add 0 0).variable name 2 4 by simp [wrExpr])
  rw [HE.out]
  have HAT := Lib.hid hat
  obtain ⟨_, v, rfl, hk⟩ := at_kids_of hat
  obtain ⟨a, cap, rfl, hmx, _⟩ := kids_parts hk
  have HW := Lib.hid h; have HEX := Lib.hid hex; have HN := Lib.hid hn; have HK2 := Lib.hid hk2
  have HLOW := Lib.hid (fun q hq => (h.xlow q hq).1)
  have HZ := Lib.hid hz
  clear h hat hk hex hn hk2 HE
  unfold cells7
  go_enter Tryz.func109, Tryz.ntmps109
  go_wp2_with (fail)
  refine (wadd_any (HW.out.alloc _) (by have := HZ.out; omega) 0 0).mono ?_
  rintro e w1 ⟨rfl, ov1, ht1, hw1⟩
  obtain ⟨d0, d1, d2, d3, d4, d5, d6⟩ := own7 (HW.out.box ht1.turn)
  have hsz : w.heap.size < w1.heap.size := by have := ht1.turn.size; simp at this; omega
  have HT1 := Lib.hid (((WentW.refl Wb (some L) ov w).alloc _).trans ht1); have HW1 := Lib.hid hw1
  have HL1 := Lib.hid (show (k.add 0 0).orders.length = k.orders.length + 1 by simp [Wr.add])
  have HB1 := Lib.hid (HW.out.box ht1.turn)
  clear ht1 hw1
  generalize k.add 0 0 = k1 at *
  go_wp2_with (fail)
  refine (variable_w HW1.out (by have := HL1.out; have := HZ.out; omega) name HN.out 2 4).mono ?_
  rintro e w2 ⟨rfl, ov2, ht2, hw2⟩
  have HT2 := Lib.hid (HT1.out.trans ht2); have HW2 := Lib.hid hw2
  clear ht2 hw2
  go_wp2_with (fail)
  go_end0
  exact ⟨rfl, ov2, HT2.out, HW2.out⟩
set_option maxHeartbeats 2000000 in
set_option maxRecDepth 100000 in
theorem wex_and : WExAt 7 := by
  intro line col num name op kids hn hk2 hex B Wb L G F ov bv k w cs h hz hat
  simp only [Ex.size] at hz
  have HE := Lib.hid (show wrExpr (.mk 7 line col num name op kids) k = wrEither 13 kids (k.add 0 0) by simp [wrExpr])
  rw [HE.out]
  have HAT := Lib.hid hat
  obtain ⟨_, v, rfl, hk⟩ := at_kids_of hat
  obtain ⟨a, cap, rfl, hmx, _⟩ := kids_parts hk
  have HW := Lib.hid h; have HEX := Lib.hid hex; have HN := Lib.hid hn; have HK2 := Lib.hid hk2
  have HLOW := Lib.hid (fun q hq => (h.xlow q hq).1)
  have HZ := Lib.hid hz
  clear h hat hk hex hn hk2 HE
  unfold cells7
  go_enter Tryz.func109, Tryz.ntmps109
  go_wp2_with (fail)
  refine (wadd_any (HW.out.alloc _) (by have := HZ.out; omega) 0 0).mono ?_
  rintro e w1 ⟨rfl, ov1, ht1, hw1⟩
  obtain ⟨d0, d1, d2, d3, d4, d5, d6⟩ := own7 (HW.out.box ht1.turn)
  have hsz : w.heap.size < w1.heap.size := by have := ht1.turn.size; simp at this; omega
  have HT1 := Lib.hid (((WentW.refl Wb (some L) ov w).alloc _).trans ht1); have HW1 := Lib.hid hw1
  have HL1 := Lib.hid (show (k.add 0 0).orders.length = k.orders.length + 1 by simp [Wr.add])
  have HB1 := Lib.hid (HW.out.box ht1.turn)
  clear ht1 hw1
  generalize k.add 0 0 = k1 at *
  go_wp2_with (fail)
  refine (either_any (HK2.out (by simp)) HEX.out _ 13 HW1.out (by have := HL1.out; have := HZ.out; omega) (At.turn HAT.out HT1.out.turn HLOW.out)).mono ?_
  rintro e w2 ⟨rfl, ov2, ht2, hw2⟩
  have HT2 := Lib.hid (HT1.out.trans ht2); have HW2 := Lib.hid hw2
  clear ht2 hw2
  go_wp2_with (fail)
  go_end0
  exact ⟨rfl, ov2, HT2.out, HW2.out⟩
set_option maxHeartbeats 2000000 in
set_option maxRecDepth 100000 in
theorem wex_or : WExAt 8 := by
  intro line col num name op kids hn hk2 hex B Wb L G F ov bv k w cs h hz hat
  simp only [Ex.size] at hz
  have HE := Lib.hid (show wrExpr (.mk 8 line col num name op kids) k = wrEither 14 kids (k.add 0 0) by simp [wrExpr])
  rw [HE.out]
  have HAT := Lib.hid hat
  obtain ⟨_, v, rfl, hk⟩ := at_kids_of hat
  obtain ⟨a, cap, rfl, hmx, _⟩ := kids_parts hk
  have HW := Lib.hid h; have HEX := Lib.hid hex; have HN := Lib.hid hn; have HK2 := Lib.hid hk2
  have HLOW := Lib.hid (fun q hq => (h.xlow q hq).1)
  have HZ := Lib.hid hz
  clear h hat hk hex hn hk2 HE
  unfold cells7
  go_enter Tryz.func109, Tryz.ntmps109
  go_wp2_with (fail)
  refine (wadd_any (HW.out.alloc _) (by have := HZ.out; omega) 0 0).mono ?_
  rintro e w1 ⟨rfl, ov1, ht1, hw1⟩
  obtain ⟨d0, d1, d2, d3, d4, d5, d6⟩ := own7 (HW.out.box ht1.turn)
  have hsz : w.heap.size < w1.heap.size := by have := ht1.turn.size; simp at this; omega
  have HT1 := Lib.hid (((WentW.refl Wb (some L) ov w).alloc _).trans ht1); have HW1 := Lib.hid hw1
  have HL1 := Lib.hid (show (k.add 0 0).orders.length = k.orders.length + 1 by simp [Wr.add])
  have HB1 := Lib.hid (HW.out.box ht1.turn)
  clear ht1 hw1
  generalize k.add 0 0 = k1 at *
  go_wp2_with (fail)
  refine (either_any (HK2.out (by simp)) HEX.out _ 14 HW1.out (by have := HL1.out; have := HZ.out; omega) (At.turn HAT.out HT1.out.turn HLOW.out)).mono ?_
  rintro e w2 ⟨rfl, ov2, ht2, hw2⟩
  have HT2 := Lib.hid (HT1.out.trans ht2); have HW2 := Lib.hid hw2
  clear ht2 hw2
  go_wp2_with (fail)
  go_end0
  exact ⟨rfl, ov2, HT2.out, HW2.out⟩
set_option maxHeartbeats 2000000 in
set_option maxRecDepth 100000 in
theorem wex_index : WExAt 4 := by
  intro line col num name op kids hn hk2 hex B Wb L G F ov bv k w cs h hz hat
  simp only [Ex.size] at hz
  have HE := Lib.hid (show wrExpr (.mk 4 line col num name op kids) k = wrTail 4 name op (wrKids kids (k.add 0 0)) by simp [wrExpr, wrTail])
  rw [HE.out]
  have HAT := Lib.hid hat
  obtain ⟨_, v, rfl, hk⟩ := at_kids_of hat
  obtain ⟨a, cap, rfl, hmx, _⟩ := kids_parts hk
  have HW := Lib.hid h; have HEX := Lib.hid hex; have HN := Lib.hid hn; have HK2 := Lib.hid hk2
  have HLOW := Lib.hid (fun q hq => (h.xlow q hq).1)
  have HZ := Lib.hid hz
  clear h hat hk hex hn hk2 HE
  unfold cells7
  go_enter Tryz.func109, Tryz.ntmps109
  go_wp2_with (fail)
  refine (wadd_any (HW.out.alloc _) (by have := HZ.out; omega) 0 0).mono ?_
  rintro e w1 ⟨rfl, ov1, ht1, hw1⟩
  obtain ⟨d0, d1, d2, d3, d4, d5, d6⟩ := own7 (HW.out.box ht1.turn)
  have hsz : w.heap.size < w1.heap.size := by have := ht1.turn.size; simp at this; omega
  have HT1 := Lib.hid (((WentW.refl Wb (some L) ov w).alloc _).trans ht1); have HW1 := Lib.hid hw1
  have HL1 := Lib.hid (show (k.add 0 0).orders.length = k.orders.length + 1 by simp [Wr.add])
  have HB1 := Lib.hid (HW.out.box ht1.turn)
  clear ht1 hw1
  generalize k.add 0 0 = k1 at *
  go_wp2_with (fail)
  refine (whole_kind 4 line col num name op kids HN.out HEX.out _ HW1.out (by have := HL1.out; have := HZ.out; omega) (At.turn HAT.out HT1.out.turn HLOW.out)).mono ?_
  rintro e w2 ⟨rfl, ov2, ht2, hw2⟩
  have HT2 := Lib.hid (HT1.out.trans ht2); have HW2 := Lib.hid hw2
  clear ht2 hw2
  go_wp2_with (fail)
  go_end0
  exact ⟨rfl, ov2, HT2.out, HW2.out⟩
set_option maxHeartbeats 2000000 in
set_option maxRecDepth 100000 in
theorem wex_call : WExAt 5 := by
  intro line col num name op kids hn hk2 hex B Wb L G F ov bv k w cs h hz hat
  simp only [Ex.size] at hz
  have HE := Lib.hid (show wrExpr (.mk 5 line col num name op kids) k = wrTail 5 name op (wrKids kids (k.add 0 0)) by simp [wrExpr, wrTail])
  rw [HE.out]
  have HAT := Lib.hid hat
  obtain ⟨_, v, rfl, hk⟩ := at_kids_of hat
  obtain ⟨a, cap, rfl, hmx, _⟩ := kids_parts hk
  have HW := Lib.hid h; have HEX := Lib.hid hex; have HN := Lib.hid hn; have HK2 := Lib.hid hk2
  have HLOW := Lib.hid (fun q hq => (h.xlow q hq).1)
  have HZ := Lib.hid hz
  clear h hat hk hex hn hk2 HE
  unfold cells7
  go_enter Tryz.func109, Tryz.ntmps109
  go_wp2_with (fail)
  refine (wadd_any (HW.out.alloc _) (by have := HZ.out; omega) 0 0).mono ?_
  rintro e w1 ⟨rfl, ov1, ht1, hw1⟩
  obtain ⟨d0, d1, d2, d3, d4, d5, d6⟩ := own7 (HW.out.box ht1.turn)
  have hsz : w.heap.size < w1.heap.size := by have := ht1.turn.size; simp at this; omega
  have HT1 := Lib.hid (((WentW.refl Wb (some L) ov w).alloc _).trans ht1); have HW1 := Lib.hid hw1
  have HL1 := Lib.hid (show (k.add 0 0).orders.length = k.orders.length + 1 by simp [Wr.add])
  have HB1 := Lib.hid (HW.out.box ht1.turn)
  clear ht1 hw1
  generalize k.add 0 0 = k1 at *
  go_wp2_with (fail)
  refine (whole_kind 5 line col num name op kids HN.out HEX.out _ HW1.out (by have := HL1.out; have := HZ.out; omega) (At.turn HAT.out HT1.out.turn HLOW.out)).mono ?_
  rintro e w2 ⟨rfl, ov2, ht2, hw2⟩
  have HT2 := Lib.hid (HT1.out.trans ht2); have HW2 := Lib.hid hw2
  clear ht2 hw2
  go_wp2_with (fail)
  go_end0
  exact ⟨rfl, ov2, HT2.out, HW2.out⟩
set_option maxHeartbeats 2000000 in
set_option maxRecDepth 100000 in
theorem wex_both : WExAt 6 := by
  intro line col num name op kids hn hk2 hex B Wb L G F ov bv k w cs h hz hat
  simp only [Ex.size] at hz
  have HE := Lib.hid (show wrExpr (.mk 6 line col num name op kids) k = wrTail 6 name op (wrKids kids (k.add 0 0)) by simp [wrExpr, wrTail])
  rw [HE.out]
  have HAT := Lib.hid hat
  obtain ⟨_, v, rfl, hk⟩ := at_kids_of hat
  obtain ⟨a, cap, rfl, hmx, _⟩ := kids_parts hk
  have HW := Lib.hid h; have HEX := Lib.hid hex; have HN := Lib.hid hn; have HK2 := Lib.hid hk2
  have HLOW := Lib.hid (fun q hq => (h.xlow q hq).1)
  have HZ := Lib.hid hz
  clear h hat hk hex hn hk2 HE
  unfold cells7
  go_enter Tryz.func109, Tryz.ntmps109
  go_wp2_with (fail)
  refine (wadd_any (HW.out.alloc _) (by have := HZ.out; omega) 0 0).mono ?_
  rintro e w1 ⟨rfl, ov1, ht1, hw1⟩
  obtain ⟨d0, d1, d2, d3, d4, d5, d6⟩ := own7 (HW.out.box ht1.turn)
  have hsz : w.heap.size < w1.heap.size := by have := ht1.turn.size; simp at this; omega
  have HT1 := Lib.hid (((WentW.refl Wb (some L) ov w).alloc _).trans ht1); have HW1 := Lib.hid hw1
  have HL1 := Lib.hid (show (k.add 0 0).orders.length = k.orders.length + 1 by simp [Wr.add])
  have HB1 := Lib.hid (HW.out.box ht1.turn)
  clear ht1 hw1
  generalize k.add 0 0 = k1 at *
  go_wp2_with (fail)
  refine (whole_kind 6 line col num name op kids HN.out HEX.out _ HW1.out (by have := HL1.out; have := HZ.out; omega) (At.turn HAT.out HT1.out.turn HLOW.out)).mono ?_
  rintro e w2 ⟨rfl, ov2, ht2, hw2⟩
  have HT2 := Lib.hid (HT1.out.trans ht2); have HW2 := Lib.hid hw2
  clear ht2 hw2
  go_wp2_with (fail)
  go_end0
  exact ⟨rfl, ov2, HT2.out, HW2.out⟩
set_option maxHeartbeats 2000000 in
set_option maxRecDepth 100000 in
theorem wex_not : WExAt 9 := by
  intro line col num name op kids hn hk2 hex B Wb L G F ov bv k w cs h hz hat
  simp only [Ex.size] at hz
  have HE := Lib.hid (show wrExpr (.mk 9 line col num name op kids) k = wrTail 9 name op (wrKids kids (k.add 0 0)) by simp [wrExpr, wrTail])
  rw [HE.out]
  have HAT := Lib.hid hat
  obtain ⟨_, v, rfl, hk⟩ := at_kids_of hat
  obtain ⟨a, cap, rfl, hmx, _⟩ := kids_parts hk
  have HW := Lib.hid h; have HEX := Lib.hid hex; have HN := Lib.hid hn; have HK2 := Lib.hid hk2
  have HLOW := Lib.hid (fun q hq => (h.xlow q hq).1)
  have HZ := Lib.hid hz
  clear h hat hk hex hn hk2 HE
  unfold cells7
  go_enter Tryz.func109, Tryz.ntmps109
  go_wp2_with (fail)
  refine (wadd_any (HW.out.alloc _) (by have := HZ.out; omega) 0 0).mono ?_
  rintro e w1 ⟨rfl, ov1, ht1, hw1⟩
  obtain ⟨d0, d1, d2, d3, d4, d5, d6⟩ := own7 (HW.out.box ht1.turn)
  have hsz : w.heap.size < w1.heap.size := by have := ht1.turn.size; simp at this; omega
  have HT1 := Lib.hid (((WentW.refl Wb (some L) ov w).alloc _).trans ht1); have HW1 := Lib.hid hw1
  have HL1 := Lib.hid (show (k.add 0 0).orders.length = k.orders.length + 1 by simp [Wr.add])
  have HB1 := Lib.hid (HW.out.box ht1.turn)
  clear ht1 hw1
  generalize k.add 0 0 = k1 at *
  go_wp2_with (fail)
  refine (whole_kind 9 line col num name op kids HN.out HEX.out _ HW1.out (by have := HL1.out; have := HZ.out; omega) (At.turn HAT.out HT1.out.turn HLOW.out)).mono ?_
  rintro e w2 ⟨rfl, ov2, ht2, hw2⟩
  have HT2 := Lib.hid (HT1.out.trans ht2); have HW2 := Lib.hid hw2
  clear ht2 hw2
  go_wp2_with (fail)
  go_end0
  exact ⟨rfl, ov2, HT2.out, HW2.out⟩
set_option maxHeartbeats 2000000 in
set_option maxRecDepth 100000 in
theorem wex_else (kind : Int) (h1 : kind ≠ 1) (h2 : kind ≠ 2) (h3 : kind ≠ 3) (h4 : kind ≠ 4) (h5 : kind ≠ 5) (h6 : kind ≠ 6) (h7 : kind ≠ 7) (h8 : kind ≠ 8) (h9 : kind ≠ 9) : WExAt kind := by
  intro line col num name op kids hn hk2 hex B Wb L G F ov bv k w cs h hz hat
  simp only [Ex.size] at hz
  have HE := Lib.hid (show wrExpr (.mk kind line col num name op kids) k = wrTail kind name op (wrKids kids (k.add 0 0)) by simp [wrExpr, wrTail, h1, h2, h3, h4, h5, h6, h7, h8, h9])
  have b1 : (kind == 1) = false := by simpa using h1
  have b2 : (kind == 2) = false := by simpa using h2
  have b3 : (kind == 3) = false := by simpa using h3
  have b7 : (kind == 7) = false := by simpa using h7
  have b8 : (kind == 8) = false := by simpa using h8
  clear h1 h2 h3 h4 h5 h6 h7 h8 h9
  rw [HE.out]
  have HAT := Lib.hid hat
  obtain ⟨_, v, rfl, hk⟩ := at_kids_of hat
  obtain ⟨a, cap, rfl, hmx, _⟩ := kids_parts hk
  have HW := Lib.hid h; have HEX := Lib.hid hex; have HN := Lib.hid hn; have HK2 := Lib.hid hk2
  have HLOW := Lib.hid (fun q hq => (h.xlow q hq).1)
  have HZ := Lib.hid hz
  clear h hat hk hex hn hk2 HE
  unfold cells7
  go_enter Tryz.func109, Tryz.ntmps109
  go_wp2_with (fail)
  refine (wadd_any (HW.out.alloc _) (by have := HZ.out; omega) 0 0).mono ?_
  rintro e w1 ⟨rfl, ov1, ht1, hw1⟩
  obtain ⟨d0, d1, d2, d3, d4, d5, d6⟩ := own7 (HW.out.box ht1.turn)
  have hsz : w.heap.size < w1.heap.size := by have := ht1.turn.size; simp at this; omega
  have HT1 := Lib.hid (((WentW.refl Wb (some L) ov w).alloc _).trans ht1); have HW1 := Lib.hid hw1
  have HL1 := Lib.hid (show (k.add 0 0).orders.length = k.orders.length + 1 by simp [Wr.add])
  have HB1 := Lib.hid (HW.out.box ht1.turn)
  clear ht1 hw1
  generalize k.add 0 0 = k1 at *
  go_wp2_with (fail)
  refine (whole_kind kind line col num name op kids HN.out HEX.out _ HW1.out (by have := HL1.out; have := HZ.out; omega) (At.turn HAT.out HT1.out.turn HLOW.out)).mono ?_
  rintro e w2 ⟨rfl, ov2, ht2, hw2⟩
  have HT2 := Lib.hid (HT1.out.trans ht2); have HW2 := Lib.hid hw2
  clear ht2 hw2
  go_wp2_with (fail)
  go_end0
  exact ⟨rfl, ov2, HT2.out, HW2.out⟩
theorem wex_kind (kind : Int) : WExAt kind := by
  by_cases h1 : kind = 1
  · subst h1; exact wex_num
  by_cases h2 : kind = 2
  · subst h2; exact wex_truth
  by_cases h3 : kind = 3
  · subst h3; exact wex_var
  by_cases h4 : kind = 4
  · subst h4; exact wex_index
  by_cases h5 : kind = 5
  · subst h5; exact wex_call
  by_cases h6 : kind = 6
  · subst h6; exact wex_both
  by_cases h7 : kind = 7
  · subst h7; exact wex_and
  by_cases h8 : kind = 8
  · subst h8; exact wex_or
  by_cases h9 : kind = 9
  · subst h9; exact wex_not
  exact wex_else kind h1 h2 h3 h4 h5 h6 h7 h8 h9
theorem wex_size : ∀ (n : Nat) (e : Ex), e.size ≤ n → e.short = true → e.good = true → WEx e
  | 0, .mk kind line col num name op kids, h, _, _ => by simp [Ex.size] at h
  | n + 1, .mk kind line col num name op kids, h, hs, hg => by
    simp only [Ex.short, Bool.and_eq_true, decide_eq_true_eq] at hs
    simp only [Ex.good, Bool.and_eq_true] at hg
    refine wex_kind kind line col num name op kids (by unfold maxLen; omega) (fun hk => ?_) (fun i hi => wex_size n _ ?_ (Ex.shorts_at hs.2 i hi) (Ex.goods_at hg.2 i hi))
    · have := hg.1
      rw [if_pos hk] at this
      exact of_decide_eq_true this
    · have := Ex.sizes_get kids i hi
      simp only [Ex.size] at h
      omega
theorem wex_any (e : Ex) (h : e.short = true) (hg : e.good = true) : WEx e := wex_size _ e (Nat.le_refl _) h hg
end Go.Proofs.YtaomlahphlemdaaGreatDoor

namespace Go.Proofs.YtaomlahphlemdaaGreatDoor
open Go.ChangeShapes Go.WideShapes Go.ChangeAt Go.RowKit
set_option linter.unusedVariables false

mutual
theorem wrote_stmt : ∀ (s : Sm) (k : Wr), Wrote k (wrStmt s k) s.wt s.grow
  | .mk does l c name es thn els, k => by
    have h0 := (wrote_add k 0 0).trans (wrote_part es 0 (k.add 0 0))
    rw [wrStmt, Sm.wt, Sm.grow]
    generalize hw : wrPart es 0 (k.add 0 0) = w at h0
    repeat' split
    · exact (h0.trans ((wrote_know w name).trans (wrote_add _ _ _))).more (by omega) (by omega)
    · exact (h0.trans (wrote_var _ _ _ _)).more (by omega) (by omega)
    · have h1 := wrote_part es 1 w
      rename_i hd
      by_cases h2 : 2 ≤ es.length
      · obtain ⟨a, b, r, rfl⟩ : ∃ a b r, es = a :: b :: r := by
          rcases es with _ | ⟨a, _ | ⟨b, r⟩⟩
          · simp at h2
          · simp at h2
          · exact ⟨a, b, r, rfl⟩
        have e0 : wrPart (a :: b :: r) 0 (k.add 0 0) = wrExpr a (k.add 0 0) := rfl
        have e1 : wrPart (a :: b :: r) 1 w = wrExpr b w := rfl
        rw [e0] at hw
        rw [e1]
        subst hw
        exact (((wrote_add k 0 0).trans (wrote_expr a _)).trans ((wrote_expr b _).trans (wrote_add _ _ _))).more (by simp only [Ex.sizes]; omega) (by omega)
      · have e1 : wrPart es 1 w = w := by unfold wrPart; rw [List.getElem?_eq_none (by omega)]
        rw [e1]
        exact (h0.trans (wrote_add _ _ _)).more (by omega) (by omega)
    · have h1 := wrote_stmts thn (w.add 12 0)
      have h2 := wrote_drops (letsOf thn) (wrStmts thn (w.add 12 0))
      have h3 := fun q => wrote_stmts els q
      have h4 := fun q => wrote_drops (letsOf els) q
      have g1 := grows_len thn; have g2 := grows_len els
      have l1 := lets_len thn; have l2 := lets_len els
      dsimp only
      exact (h0.trans (((((((wrote_add w 12 0).trans h1).trans h2).trans (wrote_add _ 11 0)).trans (wrote_here _ _)).trans ((h3 _).trans (h4 _))).trans (wrote_here _ _))).more (by omega) (by omega)
    · have h1 := wrote_stmts thn (w.add 12 0)
      have h2 := wrote_drops (letsOf thn) (wrStmts thn (w.add 12 0))
      have g1 := grows_len thn; have g2 := grows_len els
      have l1 := lets_len thn
      dsimp only
      exact (h0.trans (((((wrote_add w 12 0).trans h1).trans h2).trans (wrote_add _ 11 _)).trans (wrote_here _ _))).more (by omega) (by omega)
    · exact (h0.trans (wrote_add _ _ _)).more (by omega) (by omega)
    · exact (h0.trans (wrote_add _ _ _)).more (by omega) (by omega)
    · exact h0.more (by omega) (by omega)
theorem wrote_stmts : ∀ (l : List Sm) (k : Wr), Wrote k (wrStmts l k) (Sm.wts l) (Sm.grows l - l.length)
  | [], k => by rw [wrStmts]; exact (Wrote.refl k).more (by omega) (by omega)
  | s :: r, k => by
    rw [wrStmts]
    have h := (wrote_stmt s k).trans (wrote_stmts r (wrStmt s k))
    have := grows_len r
    exact h.more (by simp only [Sm.wts]; omega) (by simp only [Sm.grows, List.length_cons]; omega)
end
theorem wrote_block (l : List Sm) (k : Wr) : Wrote k (wrBlock l k) (Sm.wts l) (Sm.grows l) := by
  have h := (wrote_stmts l k).trans (wrote_drops (letsOf l) (wrStmts l k))
  have := grows_len l; have := lets_len l
  exact h.more (by omega) (by omega)
def WSt (s : Sm) : Prop := ∀ (B Wb L G F : Nat) (ov bv : Value) (k : Wr) (w : World) (cs : Array Value), Writes B Wb (some L) G F ov bv k w → k.orders.length + s.wt ≤ 1099511627776 → k.words.length + s.grow ≤ 1000000 → s.At w (· < B) cs →
  Calls Tryz.prog 96 #[.pointer (some ⟨Wb, 0, none⟩), .agg cs] w (WPost B Wb (some L) G F ov bv (wrStmt s k) (.tuple #[]) w)
def WBl (l : List Sm) : Prop := ∀ (B Wb L G F : Nat) (ov bv : Value) (k : Wr) (w : World) (v : Value), Writes B Wb (some L) G F ov bv k w → k.orders.length + Sm.wts l ≤ 1099511627776 → k.words.length + Sm.grows l ≤ 1000000 → BodyAt w (· < B) l v →
  Calls Tryz.prog 68 #[.pointer (some ⟨Wb, 0, none⟩), v] w (WPost B Wb (some L) G F ov bv (wrBlock l k) (.tuple #[]) w)
def wsAt (l : List Sm) (i : Nat) (k : Wr) : Wr := wrStmts (l.take i) k
theorem wrStmts_snoc : ∀ (l : List Sm) (s : Sm) (k : Wr), wrStmts (l ++ [s]) k = wrStmt s (wrStmts l k)
  | [], s, k => by simp [wrStmts]
  | a :: l, s, k => by simp only [List.cons_append, wrStmts]; exact wrStmts_snoc l s _
theorem wsAt_succ {l : List Sm} {i : Nat} (h : i < l.length) (k : Wr) : wsAt l (i + 1) k = wrStmt l[i] (wsAt l i k) := by
  unfold wsAt; rw [List.take_succ_eq_append_getElem h, wrStmts_snoc]
theorem wsAt_all (l : List Sm) (k : Wr) : wsAt l l.length k = wrStmts l k := by unfold wsAt; rw [List.take_length]
theorem wts_append : ∀ (a b : List Sm), Sm.wts (a ++ b) = Sm.wts a + Sm.wts b
  | [], b => by simp [Sm.wts]
  | s :: r, b => by simp only [List.cons_append, Sm.wts, wts_append r b]; omega
theorem wts_take {l : List Sm} {j : Nat} (h : j < l.length) : Sm.wts (l.take j) + (l[j]).wt ≤ Sm.wts l := by
  have e : l = l.take j ++ l.drop j := (List.take_append_drop j l).symm
  have h2 : l.drop j = l[j] :: l.drop (j + 1) := List.drop_eq_getElem_cons h
  have h3 : Sm.wts l = Sm.wts (l.take j) + Sm.wts (l.drop j) := by rw [← wts_append, ← e]
  rw [h3, h2, Sm.wts]; omega
theorem wsAt_room {l : List Sm} {j : Nat} (h : j < l.length) (k : Wr) (hz : k.orders.length + Sm.wts l ≤ 1099511627776) (hk : k.words.length + Sm.grows l ≤ 1000000) : (wsAt l j k).orders.length + (l[j]).wt ≤ 1099511627776 ∧ (wsAt l j k).words.length + (l[j]).grow ≤ 1000000 := by
  have h1 := wrote_stmts (l.take j) k
  have h2 := grows_take h
  have h3 := wts_take h
  have h4 := h1.hi; have h5 := h1.words
  unfold wsAt
  exact ⟨by omega, by omega⟩
theorem wdrops_append : ∀ (xs ys : List (List UInt8)) (k : Wr), k.drops (xs ++ ys) = (k.drops xs).drops ys
  | [], ys, k => rfl
  | x :: r, ys, k => by simp only [List.cons_append, Wr.drops]; exact wdrops_append r ys _
def wdropAt (l : List Sm) (i : Nat) (k : Wr) : Wr := k.drops (letsOf (l.take i))
theorem wdropAt_succ {l : List Sm} {i : Nat} (h : i < l.length) (k : Wr) : wdropAt l (i + 1) k = (wdropAt l i k).drops (letsOf [l[i]]) := by
  unfold wdropAt; rw [List.take_succ_eq_append_getElem h, lets_append, wdrops_append]
theorem wdropAt_all (l : List Sm) (k : Wr) : wdropAt l l.length k = k.drops (letsOf l) := by unfold wdropAt; rw [List.take_length]
/-- A name struck. -/
theorem Writes.gone {B Wb L : Nat} {G F : Nat} {ov bv : Value} {k : Wr} {w w' : World} (h : Writes B Wb (some L) G F ov bv k w) (hg : w.grownBy w' (some L)) (x : List UInt8) (hm : NM 3 w' L ((x, none) :: k.words)) :
    Writes B Wb (some L) G F ov bv { k with words := forget k.words x } w' ∧ Turn (WX Wb (some L) ov) w w' := by
  obtain ⟨hL, hLB, hLG, hLF⟩ := h.wm L rfl
  have hb : ∀ q, q < w.heap.size → q ≠ L → w'.heap[q]? = w.heap[q]? := fun q hq hne => hg.block q hq (by simpa using hne)
  have hWL : Wb ≠ L := (map_ne hL h.blk).symm
  refine ⟨⟨(hb Wb h.lt hWL).trans h.blk, ?_, ?_, h.gm.keep (hb G h.gm.lt (Ne.symm hLG)), h.fm.keep (hb F h.fm.lt (Ne.symm hLF)), ?_, h.low⟩, ?_⟩
  · exact own_keep h.ord (fun q hq => hb q (h.ord.lt q hq).2 (fun e => by subst e; exact own_map h.ord hL hq))
  · exact own_keep h.bod (fun q hq => hb q (h.bod.lt q hq).2 (fun e => by subst e; exact own_map h.bod hL hq))
  · intro L' hL'
    cases hL'
    exact ⟨hm, hLB, hLG, hLF⟩
  · exact ⟨hg.os, hg.tape, hg.output, hg.size, fun q hq hx => hb q hq (fun e => hx (.inr (.inl (by rw [e]))))⟩
set_option maxHeartbeats 4000000 in
set_option maxRecDepth 100000 in
theorem block_w {l : List Sm} (hst : ∀ i (h : i < l.length), WSt l[i]) (hfit : Sm.fits l = true) : WBl l := by
  intro B Wb L G F ov bv k w v h hz hroom hb
  have hp : ∃ a cap, v = .slice a l.length cap ∧ l.length ≤ 4611686018427387904 ∧ (l ≠ [] → ∃ g o, a = some ⟨g, o, none⟩ ∧ g < B ∧ l.length ≤ cap ∧ g < w.heap.size ∧ Sm.Row w (· < B) g o l) := by
    rcases hb with ⟨rfl, a, cap, rfl⟩ | ⟨hne, g, o, cap, rfl, hg, h1, h2, h3⟩
    · exact ⟨a, cap, rfl, by simp, fun q => absurd rfl q⟩
    · exact ⟨_, cap, rfl, h2, fun _ => ⟨g, o, rfl, hg, h1, by cases l with | nil => exact absurd rfl hne | cons x r => exact h3.lt, h3⟩⟩
  obtain ⟨a, cap, rfl, hmax, hrow⟩ := hp
  have HST := Lib.hid hst; have HROW := Lib.hid hrow; have HFIT := Lib.hid hfit; have HROOM := Lib.hid hroom; have HZ := Lib.hid hz
  have HW := Lib.hid h
  have HXL := Lib.hid h.xlow
  clear h hb hst hrow hfit hroom hz
  go_enter Tryz.func68, Tryz.ntmps68
  go_wp2_with (fail)
  go_loopw [10] (fun i wr => ∃ j : Nat, j ≤ l.length ∧ i = .int .i64 j ∧ ∃ ovj, WentW Wb (some L) ov ovj w wr ∧ Writes B Wb (some L) G F ovj bv (wsAt l j k) wr) (fun i _ => l.length - (intOf i).toNat)
  case atStart => exact ⟨0, Nat.zero_le _, rfl, ov, .refl _ _ _ _, HW.out⟩
  case round =>
    obtain ⟨j, hj, rfl, ovj, htr, hcr⟩ := hrel
    have HTR := Lib.hid htr; have HCR := Lib.hid hcr
    have hszr := htr.turn.size
    by_cases hjl : j < l.length
    · have hne : l ≠ [] := by intro q; rw [q] at hjl; simp at hjl
      obtain ⟨g, o, rfl, hg, hcap, hgl, hrow⟩ := HROW.out hne
      obtain ⟨cs, hat, hcl⟩ := row_get o l hrow j hjl
      cases hs : l[j] with
      | mk does ln cl name es thn els =>
        have HS := Lib.hid hs
        rw [hs] at hat
        have hat2 := SmAt.turn hat htr.turn (fun q hq => (HXL.out q hq).1)
        obtain ⟨ev, ta, tc, la, lc, rfl, h1, h2, h3⟩ := sm_parts hat2
        obtain ⟨ea, ecap, rfl, _⟩ := kids_parts h1
        have hold : ∀ q, q < 7 → wr.cell? ⟨g, o + j * 7 + q, none⟩ = (cellsS does ln cl name (.slice ea es.length ecap) (.slice ta thn.length tc) (.slice la els.length lc))[q]? := fun q hq => (htr.turn.cell hgl (fun hx => by have := (HXL.out g hx).1; omega) _).trans (hcl q hq)
        have r0 : wr.cell? ⟨g, o + j * 7, none⟩ = some (.int .i64 does) := hold 0 (by decide)
        have r1 : wr.cell? ⟨g, o + j * 7 + 1, none⟩ = some (.int .i64 ln) := hold 1 (by decide)
        have r2 : wr.cell? ⟨g, o + j * 7 + 2, none⟩ = some (.int .i64 cl) := hold 2 (by decide)
        have r3 : wr.cell? ⟨g, o + j * 7 + 3, none⟩ = some (.string ⟨name.toArray⟩) := hold 3 (by decide)
        have r4 : wr.cell? ⟨g, o + j * 7 + 4, none⟩ = some (.slice ea es.length ecap) := hold 4 (by decide)
        have r5 : wr.cell? ⟨g, o + j * 7 + 5, none⟩ = some (.slice ta thn.length tc) := hold 5 (by decide)
        have r6 : wr.cell? ⟨g, o + j * 7 + 6, none⟩ = some (.slice la els.length lc) := hold 6 (by decide)
        have hgr : g < wr.heap.size := by omega
        have HAT := Lib.hid hat2
        have HSUC := Lib.hid (wsAt_succ hjl k)
        have HO := Lib.hid (HST.out j hjl)
        have HRM := Lib.hid (wsAt_room hjl k HZ.out HROOM.out)
        rw [hs] at HSUC HO HRM
        clear htr hcr hrow hat hat2 h1 h2 h3 hcl hold hne hs
        go_wp2_with (fail)
        refine (HO.out _ _ _ _ _ _ _ _ _ _ (HCR.out.alloc _) HRM.out.1 HRM.out.2 (SmAt.turn HAT.out ((Turn.refl (WX Wb (some L) ov) wr).alloc _) (fun q hq => (HXL.out q hq).1))).mono ?_
        rintro e w2 ⟨rfl, ov2, ht2, hc2⟩
        have HT2 := Lib.hid ((HTR.out.alloc _).trans ht2); have HC2 := Lib.hid hc2
        clear ht2 hc2
        go_wp2_with (fail)
        go_roundw
        case rel => exact ⟨j + 1, by omega, by go_num, ov2, HT2.out, by rw [HSUC.out]; exact HC2.out⟩
        case measure => simp [intOf]; omega
    · obtain rfl : j = l.length := by omega
      have HALL := Lib.hid (wsAt_all l k)
      rw [HALL.out] at HCR
      clear htr hcr
      go_wp2_with (fail)
      go_loopw [20] (fun i wx => ∃ j : Nat, j ≤ l.length ∧ i = .int .i64 j ∧ WentW Wb (some L) ov ovj w wx ∧ Writes B Wb (some L) G F ovj bv (wdropAt l j (wrStmts l k)) wx) (fun i _ => l.length - (intOf i).toNat)
      case atStart => exact ⟨0, Nat.zero_le _, rfl, HTR.out, HCR.out⟩
      case round =>
        obtain ⟨j, hj2, rfl, htx, hcx⟩ := hrel
        have HTX := Lib.hid htx; have HCX := Lib.hid hcx
        have hszx := htx.turn.size
        by_cases hjl : j < l.length
        · have hne : l ≠ [] := by intro q; rw [q] at hjl; simp at hjl
          obtain ⟨g, o, rfl, hg, hcap, hgl, hrow⟩ := HROW.out hne
          obtain ⟨cs, hat, hcl⟩ := row_get o l hrow j hjl
          cases hs : l[j] with
          | mk does ln cl name es thn els =>
            rw [hs] at hat
            have hat2 := SmAt.turn hat htx.turn (fun q hq => (HXL.out q hq).1)
            obtain ⟨ev, ta, tc, la, lc, rfl, h1, h2, h3⟩ := sm_parts hat2
            obtain ⟨ea, ecap, rfl, _⟩ := kids_parts h1
            have hold : ∀ q, q < 7 → wr.cell? ⟨g, o + j * 7 + q, none⟩ = (cellsS does ln cl name (.slice ea es.length ecap) (.slice ta thn.length tc) (.slice la els.length lc))[q]? := fun q hq => (htx.turn.cell hgl (fun hx => by have := (HXL.out g hx).1; omega) _).trans (hcl q hq)
            have r0 : wr.cell? ⟨g, o + j * 7, none⟩ = some (.int .i64 does) := hold 0 (by decide)
            have r1 : wr.cell? ⟨g, o + j * 7 + 1, none⟩ = some (.int .i64 ln) := hold 1 (by decide)
            have r2 : wr.cell? ⟨g, o + j * 7 + 2, none⟩ = some (.int .i64 cl) := hold 2 (by decide)
            have r3 : wr.cell? ⟨g, o + j * 7 + 3, none⟩ = some (.string ⟨name.toArray⟩) := hold 3 (by decide)
            have r4 : wr.cell? ⟨g, o + j * 7 + 4, none⟩ = some (.slice ea es.length ecap) := hold 4 (by decide)
            have r5 : wr.cell? ⟨g, o + j * 7 + 5, none⟩ = some (.slice ta thn.length tc) := hold 5 (by decide)
            have r6 : wr.cell? ⟨g, o + j * 7 + 6, none⟩ = some (.slice la els.length lc) := hold 6 (by decide)
            have hgr : g < wr.heap.size := by omega
            have HSUC := Lib.hid (wdropAt_succ hjl (wrStmts l k))
            have HNM := Lib.hid (show name.length ≤ maxLen by
              have := Sm.fits_at HFIT.out j hjl
              rw [hs] at this
              simp only [Sm.fit, Bool.and_eq_true, decide_eq_true_eq] at this
              have := this.1.1.1
              unfold maxLen; omega)
            rw [hs] at HSUC
            clear htx hcx hrow hat hat2 h1 h2 h3 hcl hold hne hs
            by_cases hd : does = 1
            · have hd1 : (does == 1) = true := by simpa using hd
              have HD := Lib.hid (show letsOf [Sm.mk does ln cl name es thn els] = [name] by simp [letsOf, hd])
              clear hd
              go_upto_region 9 with (fail)
              change Code.wp _ _ _ _ (wr.alloc (.cells (cellsS does ln cl name (.slice ea es.length ecap) (.slice ta thn.length tc) (.slice la els.length lc)) 55))
              have hC := HCX.out.alloc (.cells (cellsS does ln cl name (.slice ea es.length ecap) (.slice ta thn.length tc) (.slice la els.length lc)) 55)
              have hB := alloc_at wr (.cells (cellsS does ln cl name (.slice ea es.length ecap) (.slice ta thn.length tc) (.slice la els.length lc)) 55) _ rfl
              have hT := HTX.out.alloc (.cells (cellsS does ln cl name (.slice ea es.length ecap) (.slice ta thn.length tc) (.slice la els.length lc)) 55)
              generalize wr.alloc (.cells (cellsS does ln cl name (.slice ea es.length ecap) (.slice ta thn.length tc) (.slice la els.length lc)) 55) = W at *
              obtain ⟨w5, hrun, hnm, hgrw⟩ := (hC.drew.wm L rfl).1.del (x := name) uMapI HNM.out 0
              obtain ⟨_, _, _, _, c4, _, _⟩ := hC.open
              have hltC := hC.lt
              obtain ⟨d0, d1, d2, d3, d4, d5, d6⟩ := ownS hB
              have hsz : wr.heap.size < W.heap.size := (Array.getElem?_eq_some_iff.1 hB).1
              have HG9 := Lib.hid (hC.drew.gone hgrw name hnm); have HT9 := Lib.hid hT
              clear hC hB hT hnm hgrw r0 r1 r2 r3 r4 r5 r6
              go_region
              go_wp2_with (fail)
              go_roundw
              case rel => exact ⟨j + 1, by omega, by go_num, HT9.out.drew.trans ⟨HG9.out.2, fun q hq => .inl hq⟩, by rw [HSUC.out, HD.out]; exact HG9.out.1⟩
              case measure => simp [intOf]; omega
            · have hd1 : (does == 1) = false := by simpa using hd
              have HD := Lib.hid (show letsOf [Sm.mk does ln cl name es thn els] = [] by simp [letsOf, hd])
              clear hd
              go_wp2_with (fail)
              go_roundw
              case rel => exact ⟨j + 1, by omega, by go_num, HTX.out.alloc _, by rw [HSUC.out, HD.out]; exact HCX.out.alloc _⟩
              case measure => simp [intOf]; omega
        · obtain rfl : j = l.length := by omega
          have HALL2 := Lib.hid (wdropAt_all l (wrStmts l k))
          rw [HALL2.out] at HCX
          clear htx hcx
          go_wp2_with (fail)
          go_end0
          exact ⟨rfl, ovj, HTX.out, HCX.out⟩
end Go.Proofs.YtaomlahphlemdaaGreatDoor

namespace Go.Proofs.YtaomlahphlemdaaGreatDoor
open Go.ChangeShapes Go.WideShapes Go.ChangeAt Go.RowKit
set_option linter.unusedVariables false

theorem body_turn {B : Nat} {l : List Sm} {v : Value} {w w' : World} {X : Nat → Prop} (h : BodyAt w (· < B) l v) (ht : Turn X w w') (hX : ∀ q, X q → B ≤ q) : BodyAt w' (· < B) l v := h.turn ht hX
set_option maxHeartbeats 4000000 in
set_option maxRecDepth 100000 in
theorem choice_w {does l c : Int} {name : List UInt8} {ev : Value} {thn els : List Sm} {ta la : Option Addr} {tn tc ln lc : Nat} (hbt : WBl thn) (hbe : WBl els) {B Wb L G F : Nat} {ov bv : Value} {k : Wr} {w : World} (h : Writes B Wb (some L) G F ov bv k w) (hz : k.orders.length + 2 + Sm.wts thn + Sm.wts els ≤ 1099511627776) (hroom : k.words.length + Sm.grows thn + Sm.grows els ≤ 1000000) (hev : ∃ a b c, ev = .slice a b c) (h2 : BodyAt w (· < B) thn (.slice ta tn tc)) (h3 : BodyAt w (· < B) els (.slice la ln lc)) :
    Calls Tryz.prog 111 #[.pointer (some ⟨Wb, 0, none⟩), .agg (cellsS does l c name ev (.slice ta tn tc) (.slice la ln lc))] w (WPost B Wb (some L) G F ov bv ((wrBlock els (((wrBlock thn (k.add 12 0)).add 11 0).toHere k.orders.length)).toHere (wrBlock thn (k.add 12 0)).orders.length) (.tuple #[]) w) := by
  obtain ⟨ea, en, ec, rfl⟩ := hev
  have HW := Lib.hid h; have HBT := Lib.hid hbt; have HBE := Lib.hid hbe; have H2 := Lib.hid h2; have H3 := Lib.hid h3; have HZ := Lib.hid hz; have HROOM := Lib.hid hroom
  have hlt := h.lt
  have HLOW := Lib.hid (fun q hq => (h.xlow q hq).1)
  have HN1 := Lib.hid (wrote_add k 12 0)
  have HN2 := Lib.hid (wrote_block thn (k.add 12 0))
  have HK1 := Lib.hid (show (k.add 12 0).orders.length = k.orders.length + 1 by simp [Wr.add])
  obtain ⟨k2, hk2⟩ : ∃ k2, k2 = wrBlock thn (k.add 12 0) := ⟨_, rfl⟩
  have HQ := Lib.hid hk2
  rw [← hk2] at HN2 ⊢
  clear h hbt hbe h2 h3 hz hroom hk2
  unfold cellsS
  go_enter Tryz.func111, Tryz.ntmps111
  go_upto_region 1 with (fail)
  change Code.wp _ _ _ _ (w.alloc (.cells (cellsS does l c name (.slice ea en ec) (.slice ta tn tc) (.slice la ln lc)) 55))
  have hT0 : WentW Wb (some L) ov ov (w.alloc (.cells (cellsS does l c name (.slice ea en ec) (.slice ta tn tc) (.slice la ln lc)) 55)) (w.alloc (.cells (cellsS does l c name (.slice ea en ec) (.slice ta tn tc) (.slice la ln lc)) 55)) := .refl _ _ _ _
  have HBX := Lib.hid (fun (ov' : Value) (w' : World) (ht : WentW Wb (some L) ov ov' (w.alloc (.cells (cellsS does l c name (.slice ea en ec) (.slice ta tn tc) (.slice la ln lc)) 55)) w') => ownS (HW.out.box ht.turn))
  have HW0 := Lib.hid (HW.out.alloc (.cells (cellsS does l c name (.slice ea en ec) (.slice ta tn tc) (.slice la ln lc)) 55))
  have HTA := Lib.hid (show WentW Wb (some L) ov ov w (w.alloc (.cells (cellsS does l c name (.slice ea en ec) (.slice ta tn tc) (.slice la ln lc)) 55)) from (WentW.refl _ _ _ _).alloc _)
  have hs1 : w.heap.size < (w.alloc (.cells (cellsS does l c name (.slice ea en ec) (.slice ta tn tc) (.slice la ln lc)) 55)).heap.size := by simp
  generalize w.alloc (.cells (cellsS does l c name (.slice ea en ec) (.slice ta tn tc) (.slice la ln lc)) 55) = W at *
  have HT0 := Lib.hid hT0
  clear hT0
  go_wp2_with (fail)
  refine (wahead_any HW0.out (by have := HZ.out; omega) 12).mono ?_
  rintro e w1 ⟨rfl, ov1, ht1, hw1⟩
  have HT1 := Lib.hid ht1; have HW1 := Lib.hid hw1
  obtain ⟨d0, d1, d2, d3, d4, d5, d6⟩ := HBX.out _ _ ht1
  have hz1 : w.heap.size < w1.heap.size := by have := ht1.turn.size; omega
  clear ht1 hw1
  go_wp2_with (fail)
  refine (HBT.out _ _ _ _ _ _ _ _ _ _ HW1.out (by have := HK1.out; have := HZ.out; omega) (by have := HN1.out.words; have := HROOM.out; omega) (body_turn (body_turn H2.out HTA.out.turn HLOW.out) HT1.out.turn HLOW.out)).mono ?_
  rintro e w2 ⟨rfl, ov2, ht2, hw2⟩
  rw [← HQ.out] at hw2
  have HT2 := Lib.hid (HT1.out.trans ht2); have HW2 := Lib.hid hw2
  clear ht2 hw2 d0 d1 d2 d3 d4 d5 d6
  go_wp2_with (fail)
  refine (wahead_any HW2.out (by have := HN2.out.hi; have := HK1.out; have := HZ.out; omega) 11).mono ?_
  rintro e w3 ⟨rfl, ov3, ht3, hw3⟩
  have HT3 := Lib.hid (HT2.out.trans ht3); have HW3 := Lib.hid hw3
  have HN3 := Lib.hid (wrote_add k2 11 0)
  have HK3 := Lib.hid (show (k2.add 11 0).orders.length = k2.orders.length + 1 by simp [Wr.add])
  clear ht3 hw3
  go_wp2_with (fail)
  refine (tohere_any HW3.out k.orders.length (by have := HK3.out; have := HN2.out.lo; have := HK1.out; omega)).mono ?_
  rintro e w4 ⟨rfl, ov4, ht4, hw4⟩
  have ht4' := HT3.out.trans ht4
  have HT4 := Lib.hid ht4'; have HW4 := Lib.hid hw4
  have HN4 := Lib.hid (wrote_here (k2.add 11 0) k.orders.length)
  obtain ⟨d0, d1, d2, d3, d4, d5, d6⟩ := HBX.out _ _ ht4'
  have hz4 : w.heap.size < w4.heap.size := by have := ht4'.turn.size; omega
  clear ht4 hw4 ht4'
  go_wp2_with (fail)
  refine (HBE.out _ _ _ _ _ _ _ _ _ _ HW4.out (by have := HN4.out.hi; have := HK3.out; have := HN2.out.hi; have := HK1.out; have := HZ.out; omega) (by have := HN4.out.words; have := HN3.out.words; have := HN2.out.words; have := HN1.out.words; have := HROOM.out; omega) (body_turn (body_turn H3.out HTA.out.turn HLOW.out) HT4.out.turn HLOW.out)).mono ?_
  rintro e w5 ⟨rfl, ov5, ht5, hw5⟩
  have HT5 := Lib.hid (HT4.out.trans ht5); have HW5 := Lib.hid hw5
  have HN5 := Lib.hid (wrote_block els ((k2.add 11 0).toHere k.orders.length))
  clear ht5 hw5 d0 d1 d2 d3 d4 d5 d6
  go_wp2_with (fail)
  refine (tohere_any HW5.out k2.orders.length (by have := HN5.out.lo; have := HN4.out.lo; have := HK3.out; omega)).mono ?_
  rintro e w6 ⟨rfl, ov6, ht6, hw6⟩
  have HT6 := Lib.hid (HT5.out.trans ht6); have HW6 := Lib.hid hw6
  clear ht6 hw6
  go_wp2_with (fail)
  go_end0
  exact ⟨rfl, ov6, HTA.out.trans HT6.out, HW6.out⟩
set_option maxHeartbeats 4000000 in
set_option maxRecDepth 100000 in
theorem loop_w {does l c : Int} {name : List UInt8} {ev : Value} {thn : List Sm} {ta la : Option Addr} {tn tc ln lc : Nat} (hbt : WBl thn) {B Wb L G F : Nat} {ov bv : Value} {k : Wr} {w : World} (top : Int) (h : Writes B Wb (some L) G F ov bv k w) (hz : k.orders.length + 2 + Sm.wts thn ≤ 1099511627776) (hroom : k.words.length + Sm.grows thn ≤ 1000000) (hev : ∃ a b c, ev = .slice a b c) (h2 : BodyAt w (· < B) thn (.slice ta tn tc)) :
    Calls Tryz.prog 112 #[.pointer (some ⟨Wb, 0, none⟩), .agg (cellsS does l c name ev (.slice ta tn tc) (.slice la ln lc)), .int .i64 top] w (WPost B Wb (some L) G F ov bv (((wrBlock thn (k.add 12 0)).add 11 top).toHere k.orders.length) (.tuple #[]) w) := by
  obtain ⟨ea, en, ec, rfl⟩ := hev
  have HW := Lib.hid h; have HBT := Lib.hid hbt; have H2 := Lib.hid h2; have HZ := Lib.hid hz; have HROOM := Lib.hid hroom
  have hlt := h.lt
  have HLOW := Lib.hid (fun q hq => (h.xlow q hq).1)
  have HN1 := Lib.hid (wrote_add k 12 0)
  have HN2 := Lib.hid (wrote_block thn (k.add 12 0))
  have HK1 := Lib.hid (show (k.add 12 0).orders.length = k.orders.length + 1 by simp [Wr.add])
  obtain ⟨k2, hk2⟩ : ∃ k2, k2 = wrBlock thn (k.add 12 0) := ⟨_, rfl⟩
  have HQ := Lib.hid hk2
  rw [← hk2] at HN2 ⊢
  clear h hbt h2 hz hroom hk2
  unfold cellsS
  go_enter Tryz.func112, Tryz.ntmps112
  go_upto_region 1 with (fail)
  change Code.wp _ _ _ _ (w.alloc (.cells (cellsS does l c name (.slice ea en ec) (.slice ta tn tc) (.slice la ln lc)) 55))
  have hT0 : WentW Wb (some L) ov ov (w.alloc (.cells (cellsS does l c name (.slice ea en ec) (.slice ta tn tc) (.slice la ln lc)) 55)) (w.alloc (.cells (cellsS does l c name (.slice ea en ec) (.slice ta tn tc) (.slice la ln lc)) 55)) := .refl _ _ _ _
  have HBX := Lib.hid (fun (ov' : Value) (w' : World) (ht : WentW Wb (some L) ov ov' (w.alloc (.cells (cellsS does l c name (.slice ea en ec) (.slice ta tn tc) (.slice la ln lc)) 55)) w') => ownS (HW.out.box ht.turn))
  have HW0 := Lib.hid (HW.out.alloc (.cells (cellsS does l c name (.slice ea en ec) (.slice ta tn tc) (.slice la ln lc)) 55))
  have HTA := Lib.hid (show WentW Wb (some L) ov ov w (w.alloc (.cells (cellsS does l c name (.slice ea en ec) (.slice ta tn tc) (.slice la ln lc)) 55)) from (WentW.refl _ _ _ _).alloc _)
  have hs1 : w.heap.size < (w.alloc (.cells (cellsS does l c name (.slice ea en ec) (.slice ta tn tc) (.slice la ln lc)) 55)).heap.size := by simp
  generalize w.alloc (.cells (cellsS does l c name (.slice ea en ec) (.slice ta tn tc) (.slice la ln lc)) 55) = W at *
  have HT0 := Lib.hid hT0
  clear hT0
  go_wp2_with (fail)
  refine (wahead_any HW0.out (by have := HZ.out; omega) 12).mono ?_
  rintro e w1 ⟨rfl, ov1, ht1, hw1⟩
  have HT1 := Lib.hid ht1; have HW1 := Lib.hid hw1
  obtain ⟨d0, d1, d2, d3, d4, d5, d6⟩ := HBX.out _ _ ht1
  have hz1 : w.heap.size < w1.heap.size := by have := ht1.turn.size; omega
  clear ht1 hw1
  go_wp2_with (fail)
  refine (HBT.out _ _ _ _ _ _ _ _ _ _ HW1.out (by have := HK1.out; have := HZ.out; omega) (by have := HN1.out.words; have := HROOM.out; omega) (body_turn (body_turn H2.out HTA.out.turn HLOW.out) HT1.out.turn HLOW.out)).mono ?_
  rintro e w2 ⟨rfl, ov2, ht2, hw2⟩
  rw [← HQ.out] at hw2
  have HT2 := Lib.hid (HT1.out.trans ht2); have HW2 := Lib.hid hw2
  clear ht2 hw2 d0 d1 d2 d3 d4 d5 d6
  go_wp2_with (fail)
  refine (wadd_any HW2.out (by have := HN2.out.hi; have := HK1.out; have := HZ.out; omega) 11 top).mono ?_
  rintro e w3 ⟨rfl, ov3, ht3, hw3⟩
  have HT3 := Lib.hid (HT2.out.trans ht3); have HW3 := Lib.hid hw3
  have HK3 := Lib.hid (show (k2.add 11 top).orders.length = k2.orders.length + 1 by simp [Wr.add])
  clear ht3 hw3
  go_wp2_with (fail)
  refine (tohere_any HW3.out k.orders.length (by have := HK3.out; have := HN2.out.lo; have := HK1.out; omega)).mono ?_
  rintro e w4 ⟨rfl, ov4, ht4, hw4⟩
  have HT4 := Lib.hid (HT3.out.trans ht4); have HW4 := Lib.hid hw4
  clear ht4 hw4
  go_wp2_with (fail)
  go_end0
  exact ⟨rfl, ov4, HTA.out.trans HT4.out, HW4.out⟩
def WStAt (does : Int) : Prop := ∀ (l c : Int) (name : List UInt8) (es : List Ex) (thn els : List Sm), (Sm.mk does l c name es thn els).fit = true → 1 ≤ es.length → (does = 3 → 2 ≤ es.length) → Ex.goods es = true → WBl thn → WBl els → WSt (.mk does l c name es thn els)
set_option maxHeartbeats 4000000 in
set_option maxRecDepth 100000 in
theorem wst_let : WStAt 1 := by
  intro l c name es thn els hfit he1 he3 hgd hbt hbe B Wb L G F ov bv k w cs h hz hroom hat
  simp only [Sm.fit, Bool.and_eq_true, decide_eq_true_eq] at hfit
  obtain ⟨⟨⟨hn, hsh⟩, hft⟩, hfe⟩ := hfit
  obtain ⟨ev, ta, tc, la, lc, rfl, h1, h2, h3⟩ := sm_parts hat
  obtain ⟨a, ecap, rfl, hmx, hrow⟩ := kids_parts h1
  obtain ⟨g, o, rfl, hg, hcap, hr⟩ := hrow (by intro q; rw [q] at he1; simp at he1)
  have hgl : g < w.heap.size := by
    cases hq : es with
    | nil => rw [hq] at he1; simp at he1
    | cons x r => rw [hq] at hr; exact hr.lt
  have HW := Lib.hid h; have HR := Lib.hid hr; have HBT := Lib.hid hbt; have HBE := Lib.hid hbe; have H2 := Lib.hid h2; have H3 := Lib.hid h3
  have HN := Lib.hid (show name.length ≤ maxLen by unfold maxLen; omega)
  have HEX := Lib.hid (fun i (hi : i < es.length) => wex_any es[i] (Ex.shorts_at hsh i hi) (Ex.goods_at hgd i hi))
  have HZ := Lib.hid (show k.orders.length + 3 * Ex.sizes es + 4 + Sm.wts thn + Sm.wts els ≤ 1099511627776 by simp only [Sm.wt] at hz; omega)
  have HROOM := Lib.hid (show k.words.length + 1 + Sm.grows thn + Sm.grows els ≤ 1000000 by simp only [Sm.grow] at hroom; omega)
  have HS0 := Lib.hid (Ex.sizes_get es 0 he1)
  have hlt := h.lt
  have HLOW := Lib.hid (fun q hq => (h.xlow q hq).1)
  have HK1 := Lib.hid (show (k.add 0 0).orders.length = k.orders.length + 1 by simp [Wr.add])
  have HN1 := Lib.hid ((wrote_add k 0 0).trans (wrote_expr es[0] (k.add 0 0)))
  have HPT := Lib.hid (show wrPart es 0 (k.add 0 0) = wrExpr es[0] (k.add 0 0) by unfold wrPart; rw [List.getElem?_eq_getElem he1])
  have HE := Lib.hid (show wrStmt (.mk 1 l c name es thn els) k = ((wrPart es 0 (k.add 0 0)).know name).add 3 (nsize (wrPart es 0 (k.add 0 0)).words) by simp [wrStmt])
  obtain ⟨k2, hk2⟩ : ∃ k2, k2 = wrExpr es[0] (k.add 0 0) := ⟨_, rfl⟩
  have HQ := Lib.hid hk2
  rw [HE.out, HPT.out, ← hk2]
  clear hk2
  clear h hat h1 h2 h3 hn hsh hft hfe hroom hz hbt hbe hr hrow he3 hgd HE
  unfold cellsS
  go_enter Tryz.func96, Tryz.ntmps96
  go_upto_region 1 with (fail)
  change Code.wp _ _ _ _ (w.alloc (.cells (cellsS 1 l c name (.slice (some ⟨g, o, none⟩) es.length ecap) (.slice ta thn.length tc) (.slice la els.length lc)) 55))
  have hT0 : WentW Wb (some L) ov ov (w.alloc (.cells (cellsS 1 l c name (.slice (some ⟨g, o, none⟩) es.length ecap) (.slice ta thn.length tc) (.slice la els.length lc)) 55)) (w.alloc (.cells (cellsS 1 l c name (.slice (some ⟨g, o, none⟩) es.length ecap) (.slice ta thn.length tc) (.slice la els.length lc)) 55)) := .refl _ _ _ _
  have HBX := Lib.hid (fun (ov' : Value) (w' : World) (ht : WentW Wb (some L) ov ov' (w.alloc (.cells (cellsS 1 l c name (.slice (some ⟨g, o, none⟩) es.length ecap) (.slice ta thn.length tc) (.slice la els.length lc)) 55)) w') => ownS (HW.out.box ht.turn))
  have HW0 := Lib.hid (HW.out.alloc (.cells (cellsS 1 l c name (.slice (some ⟨g, o, none⟩) es.length ecap) (.slice ta thn.length tc) (.slice la els.length lc)) 55))
  have HTA := Lib.hid (show WentW Wb (some L) ov ov w (w.alloc (.cells (cellsS 1 l c name (.slice (some ⟨g, o, none⟩) es.length ecap) (.slice ta thn.length tc) (.slice la els.length lc)) 55)) from (WentW.refl _ _ _ _).alloc _)
  have hs1 : w.heap.size < (w.alloc (.cells (cellsS 1 l c name (.slice (some ⟨g, o, none⟩) es.length ecap) (.slice ta thn.length tc) (.slice la els.length lc)) 55)).heap.size := by simp
  generalize w.alloc (.cells (cellsS 1 l c name (.slice (some ⟨g, o, none⟩) es.length ecap) (.slice ta thn.length tc) (.slice la els.length lc)) 55) = W at *
  have HR0 := Lib.hid (kids_turn hg HR.out HTA.out.turn HLOW.out)
  clear hT0
  go_wp2_with (fail)
  refine (wadd_any HW0.out (by have := HZ.out; omega) 0 0).mono ?_
  rintro e w1 ⟨rfl, ov1, ht1, hw1⟩
  have HT1 := Lib.hid ht1; have HW1 := Lib.hid hw1
  have hz1 : W.heap.size ≤ w1.heap.size := ht1.turn.size
  obtain ⟨d0, d1, d2, d3, d4, d5, d6⟩ := HBX.out _ _ ht1
  obtain ⟨kd, ln2, cl, nu, nm, opp, xa, xn, xc, hkat, r0, r1, r2, r3, r4, r5, r6⟩ := kid_cells (kids_turn hg HR0.out ht1.turn HLOW.out) 0 he1
  simp only [Nat.zero_mul, Nat.add_zero] at r0 r1 r2 r3 r4 r5 r6
  have hgW : g < w1.heap.size := by omega
  have hbW : w.heap.size < w1.heap.size := by omega
  have HK := Lib.hid hkat
  clear ht1 hw1 hkat
  go_wp2_with (fail)
  refine (where_any HW1.out).mono ?_
  rintro e w1' ⟨rfl, rfl⟩
  have HHERE := Lib.hid (show (k.add 0 0).here = ((k.orders.length + 1 : Nat) : Int) by simp [Wr.here, Wr.add])
  rw [HHERE.out]
  go_wp2_with (fail)
  refine (HEX.out 0 he1 _ _ _ _ _ _ _ _ _ _ HW1.out (by have := HK1.out; have := HZ.out; have := HS0.out; omega) HK.out).mono ?_
  rintro e w2 ⟨rfl, ov2, ht2, hw2⟩
  rw [← HQ.out] at hw2
  have ht2' := HT1.out.trans ht2
  have HT2 := Lib.hid ht2'; have HW2 := Lib.hid hw2
  have hz2 : W.heap.size ≤ w2.heap.size := ht2'.turn.size
  clear d0 d1 d2 d3 d4 d5 d6 r0 r1 r2 r3 r4 r5 r6
  obtain ⟨d0, d1, d2, d3, d4, d5, d6⟩ := HBX.out _ _ ht2'
  have hb2 : w.heap.size < w2.heap.size := by omega
  have HH := Lib.hid (show k2.orders.length ≤ k.orders.length + 1 + 3 * (es[0]).size by rw [HQ.out]; have := HN1.out.hi; omega)
  have HM := Lib.hid (show k2.words.length ≤ k.words.length by rw [HQ.out]; have := HN1.out.words; omega)
  clear ht2 hw2 ht2' HN1 HPT
  go_wp2_with (fail)
  refine (know_any HW2.out (by have := HM.out; have := HROOM.out; omega) name HN.out).mono ?_
  rintro e w3 ⟨rfl, ov3, ht3, hw3⟩
  have HT3 := Lib.hid (HT2.out.trans ht3); have HW3 := Lib.hid hw3
  have HK3 := Lib.hid (show (k2.know name).orders.length = k2.orders.length from rfl)
  clear ht3 hw3 HT2
  go_wp2_with (fail)
  refine (wadd_any HW3.out (by have := HK3.out; have := HH.out; have := HZ.out; have := HS0.out; omega) 3 _).mono ?_
  rintro e w9 ⟨rfl, ov9, ht9, hw9⟩
  have HT9 := Lib.hid (HT3.out.trans ht9); have HW9 := Lib.hid hw9
  clear ht9 hw9
  go_wp2_with (fail)
  go_end0
  exact ⟨rfl, ov9, HTA.out.trans HT9.out, HW9.out⟩
set_option maxHeartbeats 4000000 in
set_option maxRecDepth 100000 in
theorem wst_set : WStAt 2 := by
  intro l c name es thn els hfit he1 he3 hgd hbt hbe B Wb L G F ov bv k w cs h hz hroom hat
  simp only [Sm.fit, Bool.and_eq_true, decide_eq_true_eq] at hfit
  obtain ⟨⟨⟨hn, hsh⟩, hft⟩, hfe⟩ := hfit
  obtain ⟨ev, ta, tc, la, lc, rfl, h1, h2, h3⟩ := sm_parts hat
  obtain ⟨a, ecap, rfl, hmx, hrow⟩ := kids_parts h1
  obtain ⟨g, o, rfl, hg, hcap, hr⟩ := hrow (by intro q; rw [q] at he1; simp at he1)
  have hgl : g < w.heap.size := by
    cases hq : es with
    | nil => rw [hq] at he1; simp at he1
    | cons x r => rw [hq] at hr; exact hr.lt
  have HW := Lib.hid h; have HR := Lib.hid hr; have HBT := Lib.hid hbt; have HBE := Lib.hid hbe; have H2 := Lib.hid h2; have H3 := Lib.hid h3
  have HN := Lib.hid (show name.length ≤ maxLen by unfold maxLen; omega)
  have HEX := Lib.hid (fun i (hi : i < es.length) => wex_any es[i] (Ex.shorts_at hsh i hi) (Ex.goods_at hgd i hi))
  have HZ := Lib.hid (show k.orders.length + 3 * Ex.sizes es + 4 + Sm.wts thn + Sm.wts els ≤ 1099511627776 by simp only [Sm.wt] at hz; omega)
  have HROOM := Lib.hid (show k.words.length + 1 + Sm.grows thn + Sm.grows els ≤ 1000000 by simp only [Sm.grow] at hroom; omega)
  have HS0 := Lib.hid (Ex.sizes_get es 0 he1)
  have hlt := h.lt
  have HLOW := Lib.hid (fun q hq => (h.xlow q hq).1)
  have HK1 := Lib.hid (show (k.add 0 0).orders.length = k.orders.length + 1 by simp [Wr.add])
  have HN1 := Lib.hid ((wrote_add k 0 0).trans (wrote_expr es[0] (k.add 0 0)))
  have HPT := Lib.hid (show wrPart es 0 (k.add 0 0) = wrExpr es[0] (k.add 0 0) by unfold wrPart; rw [List.getElem?_eq_getElem he1])
  have HE := Lib.hid (show wrStmt (.mk 2 l c name es thn els) k = (wrPart es 0 (k.add 0 0)).variable name 3 5 by simp [wrStmt])
  obtain ⟨k2, hk2⟩ : ∃ k2, k2 = wrExpr es[0] (k.add 0 0) := ⟨_, rfl⟩
  have HQ := Lib.hid hk2
  rw [HE.out, HPT.out, ← hk2]
  clear hk2
  clear h hat h1 h2 h3 hn hsh hft hfe hroom hz hbt hbe hr hrow he3 hgd HE
  unfold cellsS
  go_enter Tryz.func96, Tryz.ntmps96
  go_upto_region 1 with (fail)
  change Code.wp _ _ _ _ (w.alloc (.cells (cellsS 2 l c name (.slice (some ⟨g, o, none⟩) es.length ecap) (.slice ta thn.length tc) (.slice la els.length lc)) 55))
  have hT0 : WentW Wb (some L) ov ov (w.alloc (.cells (cellsS 2 l c name (.slice (some ⟨g, o, none⟩) es.length ecap) (.slice ta thn.length tc) (.slice la els.length lc)) 55)) (w.alloc (.cells (cellsS 2 l c name (.slice (some ⟨g, o, none⟩) es.length ecap) (.slice ta thn.length tc) (.slice la els.length lc)) 55)) := .refl _ _ _ _
  have HBX := Lib.hid (fun (ov' : Value) (w' : World) (ht : WentW Wb (some L) ov ov' (w.alloc (.cells (cellsS 2 l c name (.slice (some ⟨g, o, none⟩) es.length ecap) (.slice ta thn.length tc) (.slice la els.length lc)) 55)) w') => ownS (HW.out.box ht.turn))
  have HW0 := Lib.hid (HW.out.alloc (.cells (cellsS 2 l c name (.slice (some ⟨g, o, none⟩) es.length ecap) (.slice ta thn.length tc) (.slice la els.length lc)) 55))
  have HTA := Lib.hid (show WentW Wb (some L) ov ov w (w.alloc (.cells (cellsS 2 l c name (.slice (some ⟨g, o, none⟩) es.length ecap) (.slice ta thn.length tc) (.slice la els.length lc)) 55)) from (WentW.refl _ _ _ _).alloc _)
  have hs1 : w.heap.size < (w.alloc (.cells (cellsS 2 l c name (.slice (some ⟨g, o, none⟩) es.length ecap) (.slice ta thn.length tc) (.slice la els.length lc)) 55)).heap.size := by simp
  generalize w.alloc (.cells (cellsS 2 l c name (.slice (some ⟨g, o, none⟩) es.length ecap) (.slice ta thn.length tc) (.slice la els.length lc)) 55) = W at *
  have HR0 := Lib.hid (kids_turn hg HR.out HTA.out.turn HLOW.out)
  clear hT0
  go_wp2_with (fail)
  refine (wadd_any HW0.out (by have := HZ.out; omega) 0 0).mono ?_
  rintro e w1 ⟨rfl, ov1, ht1, hw1⟩
  have HT1 := Lib.hid ht1; have HW1 := Lib.hid hw1
  have hz1 : W.heap.size ≤ w1.heap.size := ht1.turn.size
  obtain ⟨d0, d1, d2, d3, d4, d5, d6⟩ := HBX.out _ _ ht1
  obtain ⟨kd, ln2, cl, nu, nm, opp, xa, xn, xc, hkat, r0, r1, r2, r3, r4, r5, r6⟩ := kid_cells (kids_turn hg HR0.out ht1.turn HLOW.out) 0 he1
  simp only [Nat.zero_mul, Nat.add_zero] at r0 r1 r2 r3 r4 r5 r6
  have hgW : g < w1.heap.size := by omega
  have hbW : w.heap.size < w1.heap.size := by omega
  have HK := Lib.hid hkat
  clear ht1 hw1 hkat
  go_wp2_with (fail)
  refine (where_any HW1.out).mono ?_
  rintro e w1' ⟨rfl, rfl⟩
  have HHERE := Lib.hid (show (k.add 0 0).here = ((k.orders.length + 1 : Nat) : Int) by simp [Wr.here, Wr.add])
  rw [HHERE.out]
  go_wp2_with (fail)
  refine (HEX.out 0 he1 _ _ _ _ _ _ _ _ _ _ HW1.out (by have := HK1.out; have := HZ.out; have := HS0.out; omega) HK.out).mono ?_
  rintro e w2 ⟨rfl, ov2, ht2, hw2⟩
  rw [← HQ.out] at hw2
  have ht2' := HT1.out.trans ht2
  have HT2 := Lib.hid ht2'; have HW2 := Lib.hid hw2
  have hz2 : W.heap.size ≤ w2.heap.size := ht2'.turn.size
  clear d0 d1 d2 d3 d4 d5 d6 r0 r1 r2 r3 r4 r5 r6
  obtain ⟨d0, d1, d2, d3, d4, d5, d6⟩ := HBX.out _ _ ht2'
  have hb2 : w.heap.size < w2.heap.size := by omega
  have HH := Lib.hid (show k2.orders.length ≤ k.orders.length + 1 + 3 * (es[0]).size by rw [HQ.out]; have := HN1.out.hi; omega)
  have HM := Lib.hid (show k2.words.length ≤ k.words.length by rw [HQ.out]; have := HN1.out.words; omega)
  clear ht2 hw2 ht2' HN1 HPT
  go_wp2_with (fail)
  refine (variable_w HW2.out (by have := HH.out; have := HZ.out; have := HS0.out; omega) name HN.out 3 5).mono ?_
  rintro e w9 ⟨rfl, ov9, ht9, hw9⟩
  have HT9 := Lib.hid (HT2.out.trans ht9); have HW9 := Lib.hid hw9
  clear ht9 hw9
  go_wp2_with (fail)
  go_end0
  exact ⟨rfl, ov9, HTA.out.trans HT9.out, HW9.out⟩
set_option maxHeartbeats 4000000 in
set_option maxRecDepth 100000 in
theorem wst_put : WStAt 3 := by
  intro l c name es thn els hfit he1 he3 hgd hbt hbe B Wb L G F ov bv k w cs h hz hroom hat
  simp only [Sm.fit, Bool.and_eq_true, decide_eq_true_eq] at hfit
  obtain ⟨⟨⟨hn, hsh⟩, hft⟩, hfe⟩ := hfit
  obtain ⟨ev, ta, tc, la, lc, rfl, h1, h2, h3⟩ := sm_parts hat
  obtain ⟨a, ecap, rfl, hmx, hrow⟩ := kids_parts h1
  obtain ⟨g, o, rfl, hg, hcap, hr⟩ := hrow (by intro q; rw [q] at he1; simp at he1)
  have hgl : g < w.heap.size := by
    cases hq : es with
    | nil => rw [hq] at he1; simp at he1
    | cons x r => rw [hq] at hr; exact hr.lt
  have HW := Lib.hid h; have HR := Lib.hid hr; have HBT := Lib.hid hbt; have HBE := Lib.hid hbe; have H2 := Lib.hid h2; have H3 := Lib.hid h3
  have HN := Lib.hid (show name.length ≤ maxLen by unfold maxLen; omega)
  have HEX := Lib.hid (fun i (hi : i < es.length) => wex_any es[i] (Ex.shorts_at hsh i hi) (Ex.goods_at hgd i hi))
  have HZ := Lib.hid (show k.orders.length + 3 * Ex.sizes es + 4 + Sm.wts thn + Sm.wts els ≤ 1099511627776 by simp only [Sm.wt] at hz; omega)
  have HROOM := Lib.hid (show k.words.length + 1 + Sm.grows thn + Sm.grows els ≤ 1000000 by simp only [Sm.grow] at hroom; omega)
  have HS0 := Lib.hid (Ex.sizes_get es 0 he1)
  have hlt := h.lt
  have HLOW := Lib.hid (fun q hq => (h.xlow q hq).1)
  have HK1 := Lib.hid (show (k.add 0 0).orders.length = k.orders.length + 1 by simp [Wr.add])
  have HN1 := Lib.hid ((wrote_add k 0 0).trans (wrote_expr es[0] (k.add 0 0)))
  have HPT := Lib.hid (show wrPart es 0 (k.add 0 0) = wrExpr es[0] (k.add 0 0) by unfold wrPart; rw [List.getElem?_eq_getElem he1])
  have HE := Lib.hid (show wrStmt (.mk 3 l c name es thn els) k = (wrPart es 1 (wrPart es 0 (k.add 0 0))).add 7 ((look (wrPart es 1 (wrPart es 0 (k.add 0 0))).gm name).getD 0) by simp [wrStmt])
  obtain ⟨k2, hk2⟩ : ∃ k2, k2 = wrExpr es[0] (k.add 0 0) := ⟨_, rfl⟩
  have HQ := Lib.hid hk2
  rw [HE.out, HPT.out, ← hk2]
  clear hk2
  have he3' : 1 < es.length := he3 rfl
  have HPT1 := Lib.hid (show wrPart es 1 k2 = wrExpr es[1] k2 by unfold wrPart; rw [List.getElem?_eq_getElem he3'])
  have HS1 := Lib.hid (show (es[0]).size + (es[1]).size ≤ Ex.sizes es by
    rcases es with _ | ⟨x, _ | ⟨y, r⟩⟩
    · simp at he3'
    · simp at he3'
    · simp only [Ex.sizes, List.getElem_cons_zero, List.getElem_cons_succ]; omega)
  obtain ⟨k3, hk3⟩ : ∃ k3, k3 = wrExpr es[1] k2 := ⟨_, rfl⟩
  have HQ3 := Lib.hid hk3
  rw [HPT1.out, ← hk3]
  clear hk3
  clear h hat h1 h2 h3 hn hsh hft hfe hroom hz hbt hbe hr hrow he3 hgd HE
  unfold cellsS
  go_enter Tryz.func96, Tryz.ntmps96
  go_upto_region 1 with (fail)
  change Code.wp _ _ _ _ (w.alloc (.cells (cellsS 3 l c name (.slice (some ⟨g, o, none⟩) es.length ecap) (.slice ta thn.length tc) (.slice la els.length lc)) 55))
  have hT0 : WentW Wb (some L) ov ov (w.alloc (.cells (cellsS 3 l c name (.slice (some ⟨g, o, none⟩) es.length ecap) (.slice ta thn.length tc) (.slice la els.length lc)) 55)) (w.alloc (.cells (cellsS 3 l c name (.slice (some ⟨g, o, none⟩) es.length ecap) (.slice ta thn.length tc) (.slice la els.length lc)) 55)) := .refl _ _ _ _
  have HBX := Lib.hid (fun (ov' : Value) (w' : World) (ht : WentW Wb (some L) ov ov' (w.alloc (.cells (cellsS 3 l c name (.slice (some ⟨g, o, none⟩) es.length ecap) (.slice ta thn.length tc) (.slice la els.length lc)) 55)) w') => ownS (HW.out.box ht.turn))
  have HW0 := Lib.hid (HW.out.alloc (.cells (cellsS 3 l c name (.slice (some ⟨g, o, none⟩) es.length ecap) (.slice ta thn.length tc) (.slice la els.length lc)) 55))
  have HTA := Lib.hid (show WentW Wb (some L) ov ov w (w.alloc (.cells (cellsS 3 l c name (.slice (some ⟨g, o, none⟩) es.length ecap) (.slice ta thn.length tc) (.slice la els.length lc)) 55)) from (WentW.refl _ _ _ _).alloc _)
  have hs1 : w.heap.size < (w.alloc (.cells (cellsS 3 l c name (.slice (some ⟨g, o, none⟩) es.length ecap) (.slice ta thn.length tc) (.slice la els.length lc)) 55)).heap.size := by simp
  generalize w.alloc (.cells (cellsS 3 l c name (.slice (some ⟨g, o, none⟩) es.length ecap) (.slice ta thn.length tc) (.slice la els.length lc)) 55) = W at *
  have HR0 := Lib.hid (kids_turn hg HR.out HTA.out.turn HLOW.out)
  clear hT0
  go_wp2_with (fail)
  refine (wadd_any HW0.out (by have := HZ.out; omega) 0 0).mono ?_
  rintro e w1 ⟨rfl, ov1, ht1, hw1⟩
  have HT1 := Lib.hid ht1; have HW1 := Lib.hid hw1
  have hz1 : W.heap.size ≤ w1.heap.size := ht1.turn.size
  obtain ⟨d0, d1, d2, d3, d4, d5, d6⟩ := HBX.out _ _ ht1
  obtain ⟨kd, ln2, cl, nu, nm, opp, xa, xn, xc, hkat, r0, r1, r2, r3, r4, r5, r6⟩ := kid_cells (kids_turn hg HR0.out ht1.turn HLOW.out) 0 he1
  simp only [Nat.zero_mul, Nat.add_zero] at r0 r1 r2 r3 r4 r5 r6
  have hgW : g < w1.heap.size := by omega
  have hbW : w.heap.size < w1.heap.size := by omega
  have HK := Lib.hid hkat
  clear ht1 hw1 hkat
  go_wp2_with (fail)
  refine (where_any HW1.out).mono ?_
  rintro e w1' ⟨rfl, rfl⟩
  have HHERE := Lib.hid (show (k.add 0 0).here = ((k.orders.length + 1 : Nat) : Int) by simp [Wr.here, Wr.add])
  rw [HHERE.out]
  go_wp2_with (fail)
  refine (HEX.out 0 he1 _ _ _ _ _ _ _ _ _ _ HW1.out (by have := HK1.out; have := HZ.out; have := HS0.out; omega) HK.out).mono ?_
  rintro e w2 ⟨rfl, ov2, ht2, hw2⟩
  rw [← HQ.out] at hw2
  have ht2' := HT1.out.trans ht2
  have HT2 := Lib.hid ht2'; have HW2 := Lib.hid hw2
  have hz2 : W.heap.size ≤ w2.heap.size := ht2'.turn.size
  clear d0 d1 d2 d3 d4 d5 d6 r0 r1 r2 r3 r4 r5 r6
  obtain ⟨d0, d1, d2, d3, d4, d5, d6⟩ := HBX.out _ _ ht2'
  have hb2 : w.heap.size < w2.heap.size := by omega
  have HH := Lib.hid (show k2.orders.length ≤ k.orders.length + 1 + 3 * (es[0]).size by rw [HQ.out]; have := HN1.out.hi; omega)
  have HM := Lib.hid (show k2.words.length ≤ k.words.length by rw [HQ.out]; have := HN1.out.words; omega)
  clear ht2 hw2 ht2' HN1 HPT
  obtain ⟨kd', ln2', cl', nu', nm', opp', xa', xn', xc', hkat, r0, r1, r2, r3, r4, r5, r6⟩ := kid_cells (kids_turn hg HR0.out HT2.out.turn HLOW.out) 1 he3'
  simp only [Nat.one_mul] at r0 r1 r2 r3 r4 r5 r6
  have hgW2 : g < w2.heap.size := by omega
  have HK2 := Lib.hid hkat
  clear hkat
  go_wp2_with (fail)
  refine (HEX.out 1 he3' _ _ _ _ _ _ _ _ _ _ HW2.out (by have := HH.out; have := HZ.out; have := HS1.out; omega) HK2.out).mono ?_
  rintro e w3 ⟨rfl, ov3, ht3, hw3⟩
  rw [← HQ3.out] at hw3
  have ht3' := HT2.out.trans ht3
  have HT3 := Lib.hid ht3'; have HW3 := Lib.hid hw3
  have hz3 : W.heap.size ≤ w3.heap.size := ht3'.turn.size
  clear d0 d1 d2 d3 d4 d5 d6 r0 r1 r2 r3 r4 r5 r6
  obtain ⟨d0, d1, d2, d3, d4, d5, d6⟩ := HBX.out _ _ ht3'
  have hb3 : w.heap.size < w3.heap.size := by omega
  have HH3 := Lib.hid (show k3.orders.length ≤ k2.orders.length + 3 * (es[1]).size by rw [HQ3.out]; have := (wrote_expr es[1] k2).hi; omega)
  clear ht3 hw3 ht3' HT2 HPT1
  obtain ⟨_, _, c2, c3, _, _, _⟩ := HW3.out.open
  have hwl := HW3.out.lt
  have hlk := HW3.out.drew.gm.get wInt uMapI HN.out
  generalize (look k3.gm name).getD 0 = y at *
  go_upto_region 11 with (fail)
  go_still_tail 9, (by kernel_rfl)
  change wpList _ _ _ _ _ w3.drew
  go_wp2_with (fail)
  refine (wadd_any HW3.out.drew (by have := HH3.out; have := HH.out; have := HZ.out; have := HS1.out; omega) 7 y).mono ?_
  rintro e w9 ⟨rfl, ov9, ht9, hw9⟩
  have HT9 := Lib.hid (HT3.out.drew.trans ht9); have HW9 := Lib.hid hw9
  clear ht9 hw9
  go_wp2_with (fail)
  go_end0
  exact ⟨rfl, ov9, HTA.out.trans HT9.out, HW9.out⟩
set_option maxHeartbeats 4000000 in
set_option maxRecDepth 100000 in
theorem wst_if : WStAt 4 := by
  intro l c name es thn els hfit he1 he3 hgd hbt hbe B Wb L G F ov bv k w cs h hz hroom hat
  simp only [Sm.fit, Bool.and_eq_true, decide_eq_true_eq] at hfit
  obtain ⟨⟨⟨hn, hsh⟩, hft⟩, hfe⟩ := hfit
  obtain ⟨ev, ta, tc, la, lc, rfl, h1, h2, h3⟩ := sm_parts hat
  obtain ⟨a, ecap, rfl, hmx, hrow⟩ := kids_parts h1
  obtain ⟨g, o, rfl, hg, hcap, hr⟩ := hrow (by intro q; rw [q] at he1; simp at he1)
  have hgl : g < w.heap.size := by
    cases hq : es with
    | nil => rw [hq] at he1; simp at he1
    | cons x r => rw [hq] at hr; exact hr.lt
  have HW := Lib.hid h; have HR := Lib.hid hr; have HBT := Lib.hid hbt; have HBE := Lib.hid hbe; have H2 := Lib.hid h2; have H3 := Lib.hid h3
  have HN := Lib.hid (show name.length ≤ maxLen by unfold maxLen; omega)
  have HEX := Lib.hid (fun i (hi : i < es.length) => wex_any es[i] (Ex.shorts_at hsh i hi) (Ex.goods_at hgd i hi))
  have HZ := Lib.hid (show k.orders.length + 3 * Ex.sizes es + 4 + Sm.wts thn + Sm.wts els ≤ 1099511627776 by simp only [Sm.wt] at hz; omega)
  have HROOM := Lib.hid (show k.words.length + 1 + Sm.grows thn + Sm.grows els ≤ 1000000 by simp only [Sm.grow] at hroom; omega)
  have HS0 := Lib.hid (Ex.sizes_get es 0 he1)
  have hlt := h.lt
  have HLOW := Lib.hid (fun q hq => (h.xlow q hq).1)
  have HK1 := Lib.hid (show (k.add 0 0).orders.length = k.orders.length + 1 by simp [Wr.add])
  have HN1 := Lib.hid ((wrote_add k 0 0).trans (wrote_expr es[0] (k.add 0 0)))
  have HPT := Lib.hid (show wrPart es 0 (k.add 0 0) = wrExpr es[0] (k.add 0 0) by unfold wrPart; rw [List.getElem?_eq_getElem he1])
  have HE := Lib.hid (show wrStmt (.mk 4 l c name es thn els) k = (wrBlock els (((wrBlock thn ((wrPart es 0 (k.add 0 0)).add 12 0)).add 11 0).toHere (wrPart es 0 (k.add 0 0)).orders.length)).toHere (wrBlock thn ((wrPart es 0 (k.add 0 0)).add 12 0)).orders.length by simp [wrStmt, wrBlock])
  obtain ⟨k2, hk2⟩ : ∃ k2, k2 = wrExpr es[0] (k.add 0 0) := ⟨_, rfl⟩
  have HQ := Lib.hid hk2
  rw [HE.out, HPT.out, ← hk2]
  clear hk2
  clear h hat h1 h2 h3 hn hsh hft hfe hroom hz hbt hbe hr hrow he3 hgd HE
  unfold cellsS
  go_enter Tryz.func96, Tryz.ntmps96
  go_upto_region 1 with (fail)
  change Code.wp _ _ _ _ (w.alloc (.cells (cellsS 4 l c name (.slice (some ⟨g, o, none⟩) es.length ecap) (.slice ta thn.length tc) (.slice la els.length lc)) 55))
  have hT0 : WentW Wb (some L) ov ov (w.alloc (.cells (cellsS 4 l c name (.slice (some ⟨g, o, none⟩) es.length ecap) (.slice ta thn.length tc) (.slice la els.length lc)) 55)) (w.alloc (.cells (cellsS 4 l c name (.slice (some ⟨g, o, none⟩) es.length ecap) (.slice ta thn.length tc) (.slice la els.length lc)) 55)) := .refl _ _ _ _
  have HBX := Lib.hid (fun (ov' : Value) (w' : World) (ht : WentW Wb (some L) ov ov' (w.alloc (.cells (cellsS 4 l c name (.slice (some ⟨g, o, none⟩) es.length ecap) (.slice ta thn.length tc) (.slice la els.length lc)) 55)) w') => ownS (HW.out.box ht.turn))
  have HW0 := Lib.hid (HW.out.alloc (.cells (cellsS 4 l c name (.slice (some ⟨g, o, none⟩) es.length ecap) (.slice ta thn.length tc) (.slice la els.length lc)) 55))
  have HTA := Lib.hid (show WentW Wb (some L) ov ov w (w.alloc (.cells (cellsS 4 l c name (.slice (some ⟨g, o, none⟩) es.length ecap) (.slice ta thn.length tc) (.slice la els.length lc)) 55)) from (WentW.refl _ _ _ _).alloc _)
  have hs1 : w.heap.size < (w.alloc (.cells (cellsS 4 l c name (.slice (some ⟨g, o, none⟩) es.length ecap) (.slice ta thn.length tc) (.slice la els.length lc)) 55)).heap.size := by simp
  generalize w.alloc (.cells (cellsS 4 l c name (.slice (some ⟨g, o, none⟩) es.length ecap) (.slice ta thn.length tc) (.slice la els.length lc)) 55) = W at *
  have HR0 := Lib.hid (kids_turn hg HR.out HTA.out.turn HLOW.out)
  clear hT0
  go_wp2_with (fail)
  refine (wadd_any HW0.out (by have := HZ.out; omega) 0 0).mono ?_
  rintro e w1 ⟨rfl, ov1, ht1, hw1⟩
  have HT1 := Lib.hid ht1; have HW1 := Lib.hid hw1
  have hz1 : W.heap.size ≤ w1.heap.size := ht1.turn.size
  obtain ⟨d0, d1, d2, d3, d4, d5, d6⟩ := HBX.out _ _ ht1
  obtain ⟨kd, ln2, cl, nu, nm, opp, xa, xn, xc, hkat, r0, r1, r2, r3, r4, r5, r6⟩ := kid_cells (kids_turn hg HR0.out ht1.turn HLOW.out) 0 he1
  simp only [Nat.zero_mul, Nat.add_zero] at r0 r1 r2 r3 r4 r5 r6
  have hgW : g < w1.heap.size := by omega
  have hbW : w.heap.size < w1.heap.size := by omega
  have HK := Lib.hid hkat
  clear ht1 hw1 hkat
  go_wp2_with (fail)
  refine (where_any HW1.out).mono ?_
  rintro e w1' ⟨rfl, rfl⟩
  have HHERE := Lib.hid (show (k.add 0 0).here = ((k.orders.length + 1 : Nat) : Int) by simp [Wr.here, Wr.add])
  rw [HHERE.out]
  go_wp2_with (fail)
  refine (HEX.out 0 he1 _ _ _ _ _ _ _ _ _ _ HW1.out (by have := HK1.out; have := HZ.out; have := HS0.out; omega) HK.out).mono ?_
  rintro e w2 ⟨rfl, ov2, ht2, hw2⟩
  rw [← HQ.out] at hw2
  have ht2' := HT1.out.trans ht2
  have HT2 := Lib.hid ht2'; have HW2 := Lib.hid hw2
  have hz2 : W.heap.size ≤ w2.heap.size := ht2'.turn.size
  clear d0 d1 d2 d3 d4 d5 d6 r0 r1 r2 r3 r4 r5 r6
  obtain ⟨d0, d1, d2, d3, d4, d5, d6⟩ := HBX.out _ _ ht2'
  have hb2 : w.heap.size < w2.heap.size := by omega
  have HH := Lib.hid (show k2.orders.length ≤ k.orders.length + 1 + 3 * (es[0]).size by rw [HQ.out]; have := HN1.out.hi; omega)
  have HM := Lib.hid (show k2.words.length ≤ k.words.length by rw [HQ.out]; have := HN1.out.words; omega)
  clear ht2 hw2 ht2' HN1 HPT
  go_wp2_with (fail)
  refine (choice_w HBT.out HBE.out HW2.out (by have := HH.out; have := HZ.out; have := HS0.out; omega) (by have := HM.out; have := HROOM.out; omega) ⟨_, _, _, rfl⟩ (body_turn (body_turn H2.out HTA.out.turn HLOW.out) HT2.out.turn HLOW.out) (body_turn (body_turn H3.out HTA.out.turn HLOW.out) HT2.out.turn HLOW.out)).mono ?_
  rintro e w9 ⟨rfl, ov9, ht9, hw9⟩
  have HT9 := Lib.hid (HT2.out.trans ht9); have HW9 := Lib.hid hw9
  clear ht9 hw9
  go_wp2_with (fail)
  go_end0
  exact ⟨rfl, ov9, HTA.out.trans HT9.out, HW9.out⟩
set_option maxHeartbeats 4000000 in
set_option maxRecDepth 100000 in
theorem wst_while : WStAt 5 := by
  intro l c name es thn els hfit he1 he3 hgd hbt hbe B Wb L G F ov bv k w cs h hz hroom hat
  simp only [Sm.fit, Bool.and_eq_true, decide_eq_true_eq] at hfit
  obtain ⟨⟨⟨hn, hsh⟩, hft⟩, hfe⟩ := hfit
  obtain ⟨ev, ta, tc, la, lc, rfl, h1, h2, h3⟩ := sm_parts hat
  obtain ⟨a, ecap, rfl, hmx, hrow⟩ := kids_parts h1
  obtain ⟨g, o, rfl, hg, hcap, hr⟩ := hrow (by intro q; rw [q] at he1; simp at he1)
  have hgl : g < w.heap.size := by
    cases hq : es with
    | nil => rw [hq] at he1; simp at he1
    | cons x r => rw [hq] at hr; exact hr.lt
  have HW := Lib.hid h; have HR := Lib.hid hr; have HBT := Lib.hid hbt; have HBE := Lib.hid hbe; have H2 := Lib.hid h2; have H3 := Lib.hid h3
  have HN := Lib.hid (show name.length ≤ maxLen by unfold maxLen; omega)
  have HEX := Lib.hid (fun i (hi : i < es.length) => wex_any es[i] (Ex.shorts_at hsh i hi) (Ex.goods_at hgd i hi))
  have HZ := Lib.hid (show k.orders.length + 3 * Ex.sizes es + 4 + Sm.wts thn + Sm.wts els ≤ 1099511627776 by simp only [Sm.wt] at hz; omega)
  have HROOM := Lib.hid (show k.words.length + 1 + Sm.grows thn + Sm.grows els ≤ 1000000 by simp only [Sm.grow] at hroom; omega)
  have HS0 := Lib.hid (Ex.sizes_get es 0 he1)
  have hlt := h.lt
  have HLOW := Lib.hid (fun q hq => (h.xlow q hq).1)
  have HK1 := Lib.hid (show (k.add 0 0).orders.length = k.orders.length + 1 by simp [Wr.add])
  have HN1 := Lib.hid ((wrote_add k 0 0).trans (wrote_expr es[0] (k.add 0 0)))
  have HPT := Lib.hid (show wrPart es 0 (k.add 0 0) = wrExpr es[0] (k.add 0 0) by unfold wrPart; rw [List.getElem?_eq_getElem he1])
  have HE := Lib.hid (show wrStmt (.mk 5 l c name es thn els) k = ((wrBlock thn ((wrPart es 0 (k.add 0 0)).add 12 0)).add 11 (k.add 0 0).here).toHere (wrPart es 0 (k.add 0 0)).orders.length by simp [wrStmt, wrBlock])
  rw [show (k.add 0 0).here = ((k.orders.length + 1 : Nat) : Int) by simp [Wr.here, Wr.add]] at HE
  obtain ⟨k2, hk2⟩ : ∃ k2, k2 = wrExpr es[0] (k.add 0 0) := ⟨_, rfl⟩
  have HQ := Lib.hid hk2
  rw [HE.out, HPT.out, ← hk2]
  clear hk2
  clear h hat h1 h2 h3 hn hsh hft hfe hroom hz hbt hbe hr hrow he3 hgd HE
  unfold cellsS
  go_enter Tryz.func96, Tryz.ntmps96
  go_upto_region 1 with (fail)
  change Code.wp _ _ _ _ (w.alloc (.cells (cellsS 5 l c name (.slice (some ⟨g, o, none⟩) es.length ecap) (.slice ta thn.length tc) (.slice la els.length lc)) 55))
  have hT0 : WentW Wb (some L) ov ov (w.alloc (.cells (cellsS 5 l c name (.slice (some ⟨g, o, none⟩) es.length ecap) (.slice ta thn.length tc) (.slice la els.length lc)) 55)) (w.alloc (.cells (cellsS 5 l c name (.slice (some ⟨g, o, none⟩) es.length ecap) (.slice ta thn.length tc) (.slice la els.length lc)) 55)) := .refl _ _ _ _
  have HBX := Lib.hid (fun (ov' : Value) (w' : World) (ht : WentW Wb (some L) ov ov' (w.alloc (.cells (cellsS 5 l c name (.slice (some ⟨g, o, none⟩) es.length ecap) (.slice ta thn.length tc) (.slice la els.length lc)) 55)) w') => ownS (HW.out.box ht.turn))
  have HW0 := Lib.hid (HW.out.alloc (.cells (cellsS 5 l c name (.slice (some ⟨g, o, none⟩) es.length ecap) (.slice ta thn.length tc) (.slice la els.length lc)) 55))
  have HTA := Lib.hid (show WentW Wb (some L) ov ov w (w.alloc (.cells (cellsS 5 l c name (.slice (some ⟨g, o, none⟩) es.length ecap) (.slice ta thn.length tc) (.slice la els.length lc)) 55)) from (WentW.refl _ _ _ _).alloc _)
  have hs1 : w.heap.size < (w.alloc (.cells (cellsS 5 l c name (.slice (some ⟨g, o, none⟩) es.length ecap) (.slice ta thn.length tc) (.slice la els.length lc)) 55)).heap.size := by simp
  generalize w.alloc (.cells (cellsS 5 l c name (.slice (some ⟨g, o, none⟩) es.length ecap) (.slice ta thn.length tc) (.slice la els.length lc)) 55) = W at *
  have HR0 := Lib.hid (kids_turn hg HR.out HTA.out.turn HLOW.out)
  clear hT0
  go_wp2_with (fail)
  refine (wadd_any HW0.out (by have := HZ.out; omega) 0 0).mono ?_
  rintro e w1 ⟨rfl, ov1, ht1, hw1⟩
  have HT1 := Lib.hid ht1; have HW1 := Lib.hid hw1
  have hz1 : W.heap.size ≤ w1.heap.size := ht1.turn.size
  obtain ⟨d0, d1, d2, d3, d4, d5, d6⟩ := HBX.out _ _ ht1
  obtain ⟨kd, ln2, cl, nu, nm, opp, xa, xn, xc, hkat, r0, r1, r2, r3, r4, r5, r6⟩ := kid_cells (kids_turn hg HR0.out ht1.turn HLOW.out) 0 he1
  simp only [Nat.zero_mul, Nat.add_zero] at r0 r1 r2 r3 r4 r5 r6
  have hgW : g < w1.heap.size := by omega
  have hbW : w.heap.size < w1.heap.size := by omega
  have HK := Lib.hid hkat
  clear ht1 hw1 hkat
  go_wp2_with (fail)
  refine (where_any HW1.out).mono ?_
  rintro e w1' ⟨rfl, rfl⟩
  have HHERE := Lib.hid (show (k.add 0 0).here = ((k.orders.length + 1 : Nat) : Int) by simp [Wr.here, Wr.add])
  rw [HHERE.out]
  go_wp2_with (fail)
  refine (HEX.out 0 he1 _ _ _ _ _ _ _ _ _ _ HW1.out (by have := HK1.out; have := HZ.out; have := HS0.out; omega) HK.out).mono ?_
  rintro e w2 ⟨rfl, ov2, ht2, hw2⟩
  rw [← HQ.out] at hw2
  have ht2' := HT1.out.trans ht2
  have HT2 := Lib.hid ht2'; have HW2 := Lib.hid hw2
  have hz2 : W.heap.size ≤ w2.heap.size := ht2'.turn.size
  clear d0 d1 d2 d3 d4 d5 d6 r0 r1 r2 r3 r4 r5 r6
  obtain ⟨d0, d1, d2, d3, d4, d5, d6⟩ := HBX.out _ _ ht2'
  have hb2 : w.heap.size < w2.heap.size := by omega
  have HH := Lib.hid (show k2.orders.length ≤ k.orders.length + 1 + 3 * (es[0]).size by rw [HQ.out]; have := HN1.out.hi; omega)
  have HM := Lib.hid (show k2.words.length ≤ k.words.length by rw [HQ.out]; have := HN1.out.words; omega)
  clear ht2 hw2 ht2' HN1 HPT
  go_wp2_with (fail)
  refine (loop_w HBT.out ((k.orders.length + 1 : Nat) : Int) HW2.out (by have := HH.out; have := HZ.out; have := HS0.out; omega) (by have := HM.out; have := HROOM.out; omega) ⟨_, _, _, rfl⟩ (body_turn (body_turn H2.out HTA.out.turn HLOW.out) HT2.out.turn HLOW.out)).mono ?_
  rintro e w9 ⟨rfl, ov9, ht9, hw9⟩
  have HT9 := Lib.hid (HT2.out.trans ht9); have HW9 := Lib.hid hw9
  clear ht9 hw9
  go_wp2_with (fail)
  go_end0
  exact ⟨rfl, ov9, HTA.out.trans HT9.out, HW9.out⟩
set_option maxHeartbeats 4000000 in
set_option maxRecDepth 100000 in
theorem wst_return : WStAt 6 := by
  intro l c name es thn els hfit he1 he3 hgd hbt hbe B Wb L G F ov bv k w cs h hz hroom hat
  simp only [Sm.fit, Bool.and_eq_true, decide_eq_true_eq] at hfit
  obtain ⟨⟨⟨hn, hsh⟩, hft⟩, hfe⟩ := hfit
  obtain ⟨ev, ta, tc, la, lc, rfl, h1, h2, h3⟩ := sm_parts hat
  obtain ⟨a, ecap, rfl, hmx, hrow⟩ := kids_parts h1
  obtain ⟨g, o, rfl, hg, hcap, hr⟩ := hrow (by intro q; rw [q] at he1; simp at he1)
  have hgl : g < w.heap.size := by
    cases hq : es with
    | nil => rw [hq] at he1; simp at he1
    | cons x r => rw [hq] at hr; exact hr.lt
  have HW := Lib.hid h; have HR := Lib.hid hr; have HBT := Lib.hid hbt; have HBE := Lib.hid hbe; have H2 := Lib.hid h2; have H3 := Lib.hid h3
  have HN := Lib.hid (show name.length ≤ maxLen by unfold maxLen; omega)
  have HEX := Lib.hid (fun i (hi : i < es.length) => wex_any es[i] (Ex.shorts_at hsh i hi) (Ex.goods_at hgd i hi))
  have HZ := Lib.hid (show k.orders.length + 3 * Ex.sizes es + 4 + Sm.wts thn + Sm.wts els ≤ 1099511627776 by simp only [Sm.wt] at hz; omega)
  have HROOM := Lib.hid (show k.words.length + 1 + Sm.grows thn + Sm.grows els ≤ 1000000 by simp only [Sm.grow] at hroom; omega)
  have HS0 := Lib.hid (Ex.sizes_get es 0 he1)
  have hlt := h.lt
  have HLOW := Lib.hid (fun q hq => (h.xlow q hq).1)
  have HK1 := Lib.hid (show (k.add 0 0).orders.length = k.orders.length + 1 by simp [Wr.add])
  have HN1 := Lib.hid ((wrote_add k 0 0).trans (wrote_expr es[0] (k.add 0 0)))
  have HPT := Lib.hid (show wrPart es 0 (k.add 0 0) = wrExpr es[0] (k.add 0 0) by unfold wrPart; rw [List.getElem?_eq_getElem he1])
  have HE := Lib.hid (show wrStmt (.mk 6 l c name es thn els) k = (wrPart es 0 (k.add 0 0)).add 16 0 by simp [wrStmt])
  obtain ⟨k2, hk2⟩ : ∃ k2, k2 = wrExpr es[0] (k.add 0 0) := ⟨_, rfl⟩
  have HQ := Lib.hid hk2
  rw [HE.out, HPT.out, ← hk2]
  clear hk2
  clear h hat h1 h2 h3 hn hsh hft hfe hroom hz hbt hbe hr hrow he3 hgd HE
  unfold cellsS
  go_enter Tryz.func96, Tryz.ntmps96
  go_upto_region 1 with (fail)
  change Code.wp _ _ _ _ (w.alloc (.cells (cellsS 6 l c name (.slice (some ⟨g, o, none⟩) es.length ecap) (.slice ta thn.length tc) (.slice la els.length lc)) 55))
  have hT0 : WentW Wb (some L) ov ov (w.alloc (.cells (cellsS 6 l c name (.slice (some ⟨g, o, none⟩) es.length ecap) (.slice ta thn.length tc) (.slice la els.length lc)) 55)) (w.alloc (.cells (cellsS 6 l c name (.slice (some ⟨g, o, none⟩) es.length ecap) (.slice ta thn.length tc) (.slice la els.length lc)) 55)) := .refl _ _ _ _
  have HBX := Lib.hid (fun (ov' : Value) (w' : World) (ht : WentW Wb (some L) ov ov' (w.alloc (.cells (cellsS 6 l c name (.slice (some ⟨g, o, none⟩) es.length ecap) (.slice ta thn.length tc) (.slice la els.length lc)) 55)) w') => ownS (HW.out.box ht.turn))
  have HW0 := Lib.hid (HW.out.alloc (.cells (cellsS 6 l c name (.slice (some ⟨g, o, none⟩) es.length ecap) (.slice ta thn.length tc) (.slice la els.length lc)) 55))
  have HTA := Lib.hid (show WentW Wb (some L) ov ov w (w.alloc (.cells (cellsS 6 l c name (.slice (some ⟨g, o, none⟩) es.length ecap) (.slice ta thn.length tc) (.slice la els.length lc)) 55)) from (WentW.refl _ _ _ _).alloc _)
  have hs1 : w.heap.size < (w.alloc (.cells (cellsS 6 l c name (.slice (some ⟨g, o, none⟩) es.length ecap) (.slice ta thn.length tc) (.slice la els.length lc)) 55)).heap.size := by simp
  generalize w.alloc (.cells (cellsS 6 l c name (.slice (some ⟨g, o, none⟩) es.length ecap) (.slice ta thn.length tc) (.slice la els.length lc)) 55) = W at *
  have HR0 := Lib.hid (kids_turn hg HR.out HTA.out.turn HLOW.out)
  clear hT0
  go_wp2_with (fail)
  refine (wadd_any HW0.out (by have := HZ.out; omega) 0 0).mono ?_
  rintro e w1 ⟨rfl, ov1, ht1, hw1⟩
  have HT1 := Lib.hid ht1; have HW1 := Lib.hid hw1
  have hz1 : W.heap.size ≤ w1.heap.size := ht1.turn.size
  obtain ⟨d0, d1, d2, d3, d4, d5, d6⟩ := HBX.out _ _ ht1
  obtain ⟨kd, ln2, cl, nu, nm, opp, xa, xn, xc, hkat, r0, r1, r2, r3, r4, r5, r6⟩ := kid_cells (kids_turn hg HR0.out ht1.turn HLOW.out) 0 he1
  simp only [Nat.zero_mul, Nat.add_zero] at r0 r1 r2 r3 r4 r5 r6
  have hgW : g < w1.heap.size := by omega
  have hbW : w.heap.size < w1.heap.size := by omega
  have HK := Lib.hid hkat
  clear ht1 hw1 hkat
  go_wp2_with (fail)
  refine (where_any HW1.out).mono ?_
  rintro e w1' ⟨rfl, rfl⟩
  have HHERE := Lib.hid (show (k.add 0 0).here = ((k.orders.length + 1 : Nat) : Int) by simp [Wr.here, Wr.add])
  rw [HHERE.out]
  go_wp2_with (fail)
  refine (HEX.out 0 he1 _ _ _ _ _ _ _ _ _ _ HW1.out (by have := HK1.out; have := HZ.out; have := HS0.out; omega) HK.out).mono ?_
  rintro e w2 ⟨rfl, ov2, ht2, hw2⟩
  rw [← HQ.out] at hw2
  have ht2' := HT1.out.trans ht2
  have HT2 := Lib.hid ht2'; have HW2 := Lib.hid hw2
  have hz2 : W.heap.size ≤ w2.heap.size := ht2'.turn.size
  clear d0 d1 d2 d3 d4 d5 d6 r0 r1 r2 r3 r4 r5 r6
  obtain ⟨d0, d1, d2, d3, d4, d5, d6⟩ := HBX.out _ _ ht2'
  have hb2 : w.heap.size < w2.heap.size := by omega
  have HH := Lib.hid (show k2.orders.length ≤ k.orders.length + 1 + 3 * (es[0]).size by rw [HQ.out]; have := HN1.out.hi; omega)
  have HM := Lib.hid (show k2.words.length ≤ k.words.length by rw [HQ.out]; have := HN1.out.words; omega)
  clear ht2 hw2 ht2' HN1 HPT
  go_wp2_with (fail)
  refine (wadd_any HW2.out (by have := HH.out; have := HZ.out; have := HS0.out; omega) 16 0).mono ?_
  rintro e w9 ⟨rfl, ov9, ht9, hw9⟩
  have HT9 := Lib.hid (HT2.out.trans ht9); have HW9 := Lib.hid hw9
  clear ht9 hw9
  go_wp2_with (fail)
  go_end0
  exact ⟨rfl, ov9, HTA.out.trans HT9.out, HW9.out⟩
set_option maxHeartbeats 4000000 in
set_option maxRecDepth 100000 in
theorem wst_run : WStAt 7 := by
  intro l c name es thn els hfit he1 he3 hgd hbt hbe B Wb L G F ov bv k w cs h hz hroom hat
  simp only [Sm.fit, Bool.and_eq_true, decide_eq_true_eq] at hfit
  obtain ⟨⟨⟨hn, hsh⟩, hft⟩, hfe⟩ := hfit
  obtain ⟨ev, ta, tc, la, lc, rfl, h1, h2, h3⟩ := sm_parts hat
  obtain ⟨a, ecap, rfl, hmx, hrow⟩ := kids_parts h1
  obtain ⟨g, o, rfl, hg, hcap, hr⟩ := hrow (by intro q; rw [q] at he1; simp at he1)
  have hgl : g < w.heap.size := by
    cases hq : es with
    | nil => rw [hq] at he1; simp at he1
    | cons x r => rw [hq] at hr; exact hr.lt
  have HW := Lib.hid h; have HR := Lib.hid hr; have HBT := Lib.hid hbt; have HBE := Lib.hid hbe; have H2 := Lib.hid h2; have H3 := Lib.hid h3
  have HN := Lib.hid (show name.length ≤ maxLen by unfold maxLen; omega)
  have HEX := Lib.hid (fun i (hi : i < es.length) => wex_any es[i] (Ex.shorts_at hsh i hi) (Ex.goods_at hgd i hi))
  have HZ := Lib.hid (show k.orders.length + 3 * Ex.sizes es + 4 + Sm.wts thn + Sm.wts els ≤ 1099511627776 by simp only [Sm.wt] at hz; omega)
  have HROOM := Lib.hid (show k.words.length + 1 + Sm.grows thn + Sm.grows els ≤ 1000000 by simp only [Sm.grow] at hroom; omega)
  have HS0 := Lib.hid (Ex.sizes_get es 0 he1)
  have hlt := h.lt
  have HLOW := Lib.hid (fun q hq => (h.xlow q hq).1)
  have HK1 := Lib.hid (show (k.add 0 0).orders.length = k.orders.length + 1 by simp [Wr.add])
  have HN1 := Lib.hid ((wrote_add k 0 0).trans (wrote_expr es[0] (k.add 0 0)))
  have HPT := Lib.hid (show wrPart es 0 (k.add 0 0) = wrExpr es[0] (k.add 0 0) by unfold wrPart; rw [List.getElem?_eq_getElem he1])
  have HE := Lib.hid (show wrStmt (.mk 7 l c name es thn els) k = (wrPart es 0 (k.add 0 0)).add 10 0 by simp [wrStmt])
  obtain ⟨k2, hk2⟩ : ∃ k2, k2 = wrExpr es[0] (k.add 0 0) := ⟨_, rfl⟩
  have HQ := Lib.hid hk2
  rw [HE.out, HPT.out, ← hk2]
  clear hk2
  clear h hat h1 h2 h3 hn hsh hft hfe hroom hz hbt hbe hr hrow he3 hgd HE
  unfold cellsS
  go_enter Tryz.func96, Tryz.ntmps96
  go_upto_region 1 with (fail)
  change Code.wp _ _ _ _ (w.alloc (.cells (cellsS 7 l c name (.slice (some ⟨g, o, none⟩) es.length ecap) (.slice ta thn.length tc) (.slice la els.length lc)) 55))
  have hT0 : WentW Wb (some L) ov ov (w.alloc (.cells (cellsS 7 l c name (.slice (some ⟨g, o, none⟩) es.length ecap) (.slice ta thn.length tc) (.slice la els.length lc)) 55)) (w.alloc (.cells (cellsS 7 l c name (.slice (some ⟨g, o, none⟩) es.length ecap) (.slice ta thn.length tc) (.slice la els.length lc)) 55)) := .refl _ _ _ _
  have HBX := Lib.hid (fun (ov' : Value) (w' : World) (ht : WentW Wb (some L) ov ov' (w.alloc (.cells (cellsS 7 l c name (.slice (some ⟨g, o, none⟩) es.length ecap) (.slice ta thn.length tc) (.slice la els.length lc)) 55)) w') => ownS (HW.out.box ht.turn))
  have HW0 := Lib.hid (HW.out.alloc (.cells (cellsS 7 l c name (.slice (some ⟨g, o, none⟩) es.length ecap) (.slice ta thn.length tc) (.slice la els.length lc)) 55))
  have HTA := Lib.hid (show WentW Wb (some L) ov ov w (w.alloc (.cells (cellsS 7 l c name (.slice (some ⟨g, o, none⟩) es.length ecap) (.slice ta thn.length tc) (.slice la els.length lc)) 55)) from (WentW.refl _ _ _ _).alloc _)
  have hs1 : w.heap.size < (w.alloc (.cells (cellsS 7 l c name (.slice (some ⟨g, o, none⟩) es.length ecap) (.slice ta thn.length tc) (.slice la els.length lc)) 55)).heap.size := by simp
  generalize w.alloc (.cells (cellsS 7 l c name (.slice (some ⟨g, o, none⟩) es.length ecap) (.slice ta thn.length tc) (.slice la els.length lc)) 55) = W at *
  have HR0 := Lib.hid (kids_turn hg HR.out HTA.out.turn HLOW.out)
  clear hT0
  go_wp2_with (fail)
  refine (wadd_any HW0.out (by have := HZ.out; omega) 0 0).mono ?_
  rintro e w1 ⟨rfl, ov1, ht1, hw1⟩
  have HT1 := Lib.hid ht1; have HW1 := Lib.hid hw1
  have hz1 : W.heap.size ≤ w1.heap.size := ht1.turn.size
  obtain ⟨d0, d1, d2, d3, d4, d5, d6⟩ := HBX.out _ _ ht1
  obtain ⟨kd, ln2, cl, nu, nm, opp, xa, xn, xc, hkat, r0, r1, r2, r3, r4, r5, r6⟩ := kid_cells (kids_turn hg HR0.out ht1.turn HLOW.out) 0 he1
  simp only [Nat.zero_mul, Nat.add_zero] at r0 r1 r2 r3 r4 r5 r6
  have hgW : g < w1.heap.size := by omega
  have hbW : w.heap.size < w1.heap.size := by omega
  have HK := Lib.hid hkat
  clear ht1 hw1 hkat
  go_wp2_with (fail)
  refine (where_any HW1.out).mono ?_
  rintro e w1' ⟨rfl, rfl⟩
  have HHERE := Lib.hid (show (k.add 0 0).here = ((k.orders.length + 1 : Nat) : Int) by simp [Wr.here, Wr.add])
  rw [HHERE.out]
  go_wp2_with (fail)
  refine (HEX.out 0 he1 _ _ _ _ _ _ _ _ _ _ HW1.out (by have := HK1.out; have := HZ.out; have := HS0.out; omega) HK.out).mono ?_
  rintro e w2 ⟨rfl, ov2, ht2, hw2⟩
  rw [← HQ.out] at hw2
  have ht2' := HT1.out.trans ht2
  have HT2 := Lib.hid ht2'; have HW2 := Lib.hid hw2
  have hz2 : W.heap.size ≤ w2.heap.size := ht2'.turn.size
  clear d0 d1 d2 d3 d4 d5 d6 r0 r1 r2 r3 r4 r5 r6
  obtain ⟨d0, d1, d2, d3, d4, d5, d6⟩ := HBX.out _ _ ht2'
  have hb2 : w.heap.size < w2.heap.size := by omega
  have HH := Lib.hid (show k2.orders.length ≤ k.orders.length + 1 + 3 * (es[0]).size by rw [HQ.out]; have := HN1.out.hi; omega)
  have HM := Lib.hid (show k2.words.length ≤ k.words.length by rw [HQ.out]; have := HN1.out.words; omega)
  clear ht2 hw2 ht2' HN1 HPT
  go_wp2_with (fail)
  refine (wadd_any HW2.out (by have := HH.out; have := HZ.out; have := HS0.out; omega) 10 0).mono ?_
  rintro e w9 ⟨rfl, ov9, ht9, hw9⟩
  have HT9 := Lib.hid (HT2.out.trans ht9); have HW9 := Lib.hid hw9
  clear ht9 hw9
  go_wp2_with (fail)
  go_end0
  exact ⟨rfl, ov9, HTA.out.trans HT9.out, HW9.out⟩
set_option maxHeartbeats 4000000 in
set_option maxRecDepth 100000 in
theorem wst_else (does : Int) (g1 : does ≠ 1) (g2 : does ≠ 2) (g3 : does ≠ 3) (g4 : does ≠ 4) (g5 : does ≠ 5) (g6 : does ≠ 6) (g7 : does ≠ 7) : WStAt does := by
  intro l c name es thn els hfit he1 he3 hgd hbt hbe B Wb L G F ov bv k w cs h hz hroom hat
  simp only [Sm.fit, Bool.and_eq_true, decide_eq_true_eq] at hfit
  obtain ⟨⟨⟨hn, hsh⟩, hft⟩, hfe⟩ := hfit
  obtain ⟨ev, ta, tc, la, lc, rfl, h1, h2, h3⟩ := sm_parts hat
  obtain ⟨a, ecap, rfl, hmx, hrow⟩ := kids_parts h1
  obtain ⟨g, o, rfl, hg, hcap, hr⟩ := hrow (by intro q; rw [q] at he1; simp at he1)
  have hgl : g < w.heap.size := by
    cases hq : es with
    | nil => rw [hq] at he1; simp at he1
    | cons x r => rw [hq] at hr; exact hr.lt
  have HW := Lib.hid h; have HR := Lib.hid hr; have HBT := Lib.hid hbt; have HBE := Lib.hid hbe; have H2 := Lib.hid h2; have H3 := Lib.hid h3
  have HN := Lib.hid (show name.length ≤ maxLen by unfold maxLen; omega)
  have HEX := Lib.hid (fun i (hi : i < es.length) => wex_any es[i] (Ex.shorts_at hsh i hi) (Ex.goods_at hgd i hi))
  have HZ := Lib.hid (show k.orders.length + 3 * Ex.sizes es + 4 + Sm.wts thn + Sm.wts els ≤ 1099511627776 by simp only [Sm.wt] at hz; omega)
  have HROOM := Lib.hid (show k.words.length + 1 + Sm.grows thn + Sm.grows els ≤ 1000000 by simp only [Sm.grow] at hroom; omega)
  have HS0 := Lib.hid (Ex.sizes_get es 0 he1)
  have hlt := h.lt
  have HLOW := Lib.hid (fun q hq => (h.xlow q hq).1)
  have HK1 := Lib.hid (show (k.add 0 0).orders.length = k.orders.length + 1 by simp [Wr.add])
  have HN1 := Lib.hid ((wrote_add k 0 0).trans (wrote_expr es[0] (k.add 0 0)))
  have HPT := Lib.hid (show wrPart es 0 (k.add 0 0) = wrExpr es[0] (k.add 0 0) by unfold wrPart; rw [List.getElem?_eq_getElem he1])
  have HE := Lib.hid (show wrStmt (.mk does l c name es thn els) k = wrPart es 0 (k.add 0 0) by simp [wrStmt, g1, g2, g3, g4, g5, g6, g7])
  have b1 : (does == 1) = false := by simpa using g1
  have b2 : (does == 2) = false := by simpa using g2
  have b3 : (does == 3) = false := by simpa using g3
  have b4 : (does == 4) = false := by simpa using g4
  have b5 : (does == 5) = false := by simpa using g5
  have b6 : (does == 6) = false := by simpa using g6
  have b7 : (does == 7) = false := by simpa using g7
  clear g1 g2 g3 g4 g5 g6 g7
  obtain ⟨k2, hk2⟩ : ∃ k2, k2 = wrExpr es[0] (k.add 0 0) := ⟨_, rfl⟩
  have HQ := Lib.hid hk2
  rw [HE.out, HPT.out, ← hk2]
  clear hk2
  clear h hat h1 h2 h3 hn hsh hft hfe hroom hz hbt hbe hr hrow he3 hgd HE
  unfold cellsS
  go_enter Tryz.func96, Tryz.ntmps96
  go_upto_region 1 with (fail)
  change Code.wp _ _ _ _ (w.alloc (.cells (cellsS does l c name (.slice (some ⟨g, o, none⟩) es.length ecap) (.slice ta thn.length tc) (.slice la els.length lc)) 55))
  have hT0 : WentW Wb (some L) ov ov (w.alloc (.cells (cellsS does l c name (.slice (some ⟨g, o, none⟩) es.length ecap) (.slice ta thn.length tc) (.slice la els.length lc)) 55)) (w.alloc (.cells (cellsS does l c name (.slice (some ⟨g, o, none⟩) es.length ecap) (.slice ta thn.length tc) (.slice la els.length lc)) 55)) := .refl _ _ _ _
  have HBX := Lib.hid (fun (ov' : Value) (w' : World) (ht : WentW Wb (some L) ov ov' (w.alloc (.cells (cellsS does l c name (.slice (some ⟨g, o, none⟩) es.length ecap) (.slice ta thn.length tc) (.slice la els.length lc)) 55)) w') => ownS (HW.out.box ht.turn))
  have HW0 := Lib.hid (HW.out.alloc (.cells (cellsS does l c name (.slice (some ⟨g, o, none⟩) es.length ecap) (.slice ta thn.length tc) (.slice la els.length lc)) 55))
  have HTA := Lib.hid (show WentW Wb (some L) ov ov w (w.alloc (.cells (cellsS does l c name (.slice (some ⟨g, o, none⟩) es.length ecap) (.slice ta thn.length tc) (.slice la els.length lc)) 55)) from (WentW.refl _ _ _ _).alloc _)
  have hs1 : w.heap.size < (w.alloc (.cells (cellsS does l c name (.slice (some ⟨g, o, none⟩) es.length ecap) (.slice ta thn.length tc) (.slice la els.length lc)) 55)).heap.size := by simp
  generalize w.alloc (.cells (cellsS does l c name (.slice (some ⟨g, o, none⟩) es.length ecap) (.slice ta thn.length tc) (.slice la els.length lc)) 55) = W at *
  have HR0 := Lib.hid (kids_turn hg HR.out HTA.out.turn HLOW.out)
  clear hT0
  go_wp2_with (fail)
  refine (wadd_any HW0.out (by have := HZ.out; omega) 0 0).mono ?_
  rintro e w1 ⟨rfl, ov1, ht1, hw1⟩
  have HT1 := Lib.hid ht1; have HW1 := Lib.hid hw1
  have hz1 : W.heap.size ≤ w1.heap.size := ht1.turn.size
  obtain ⟨d0, d1, d2, d3, d4, d5, d6⟩ := HBX.out _ _ ht1
  obtain ⟨kd, ln2, cl, nu, nm, opp, xa, xn, xc, hkat, r0, r1, r2, r3, r4, r5, r6⟩ := kid_cells (kids_turn hg HR0.out ht1.turn HLOW.out) 0 he1
  simp only [Nat.zero_mul, Nat.add_zero] at r0 r1 r2 r3 r4 r5 r6
  have hgW : g < w1.heap.size := by omega
  have hbW : w.heap.size < w1.heap.size := by omega
  have HK := Lib.hid hkat
  clear ht1 hw1 hkat
  go_wp2_with (fail)
  refine (where_any HW1.out).mono ?_
  rintro e w1' ⟨rfl, rfl⟩
  have HHERE := Lib.hid (show (k.add 0 0).here = ((k.orders.length + 1 : Nat) : Int) by simp [Wr.here, Wr.add])
  rw [HHERE.out]
  go_wp2_with (fail)
  refine (HEX.out 0 he1 _ _ _ _ _ _ _ _ _ _ HW1.out (by have := HK1.out; have := HZ.out; have := HS0.out; omega) HK.out).mono ?_
  rintro e w2 ⟨rfl, ov2, ht2, hw2⟩
  rw [← HQ.out] at hw2
  have ht2' := HT1.out.trans ht2
  have HT2 := Lib.hid ht2'; have HW2 := Lib.hid hw2
  have hz2 : W.heap.size ≤ w2.heap.size := ht2'.turn.size
  clear d0 d1 d2 d3 d4 d5 d6 r0 r1 r2 r3 r4 r5 r6
  obtain ⟨d0, d1, d2, d3, d4, d5, d6⟩ := HBX.out _ _ ht2'
  have hb2 : w.heap.size < w2.heap.size := by omega
  have HH := Lib.hid (show k2.orders.length ≤ k.orders.length + 1 + 3 * (es[0]).size by rw [HQ.out]; have := HN1.out.hi; omega)
  have HM := Lib.hid (show k2.words.length ≤ k.words.length by rw [HQ.out]; have := HN1.out.words; omega)
  clear ht2 hw2 ht2' HN1 HPT
  go_wp2_with (fail)
  go_end0
  exact ⟨rfl, ov2, HTA.out.trans HT2.out, HW2.out⟩
theorem wst_does (does : Int) : WStAt does := by
  by_cases h1 : does = 1
  · subst h1; exact wst_let
  by_cases h2 : does = 2
  · subst h2; exact wst_set
  by_cases h3 : does = 3
  · subst h3; exact wst_put
  by_cases h4 : does = 4
  · subst h4; exact wst_if
  by_cases h5 : does = 5
  · subst h5; exact wst_while
  by_cases h6 : does = 6
  · subst h6; exact wst_return
  by_cases h7 : does = 7
  · subst h7; exact wst_run
  exact wst_else does h1 h2 h3 h4 h5 h6 h7
theorem wblocks_size : ∀ n : Nat, (∀ s : Sm, s.grow ≤ n → s.fit = true → s.good = true → WSt s) ∧ (∀ l : List Sm, Sm.grows l ≤ n → Sm.fits l = true → Sm.goods l = true → WBl l)
  | 0 => ⟨fun s hs => by cases s; simp [Sm.grow] at hs, fun l hl hf _ => by
      cases l with
      | nil => exact block_w (fun i h => by simp at h) rfl
      | cons s r => simp [Sm.grows] at hl⟩
  | n + 1 => by
    obtain ⟨ih1, ih2⟩ := wblocks_size n
    have hst : ∀ s : Sm, s.grow ≤ n + 1 → s.fit = true → s.good = true → WSt s := fun s hs hf hg => by
      cases s with
      | mk does l c name es thn els =>
        have hf' := hf
        simp only [Sm.fit, Bool.and_eq_true, decide_eq_true_eq] at hf'
        simp only [Sm.grow] at hs
        simp only [Sm.good, Bool.and_eq_true] at hg
        obtain ⟨⟨⟨⟨g1, g2⟩, g3⟩, g4⟩, g5⟩ := hg
        exact wst_does does l c name es thn els hf (of_decide_eq_true g1) (fun h => by rw [if_pos h] at g2; exact of_decide_eq_true g2) g3 (ih2 thn (by omega) hf'.1.2 g4) (ih2 els (by omega) hf'.2 g5)
    exact ⟨hst, fun l hl hf hg => block_w (fun i h => ih1 _ (by have := Sm.grows_at i h; omega) (Sm.fits_at hf i h) (Sm.goods_at hg i h)) hf⟩
theorem wblocks_ok (l : List Sm) (h : Sm.fits l = true) (hg : Sm.goods l = true) : WBl l := (wblocks_size (Sm.grows l)).2 l (Nat.le_refl _) h hg
end Go.Proofs.YtaomlahphlemdaaGreatDoor
