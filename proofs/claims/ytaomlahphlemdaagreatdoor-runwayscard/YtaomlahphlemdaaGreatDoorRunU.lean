/-
  Layer 6 as functions over lists: what the runner does.
  The runner's memory.
  The runner: lay, pick, fail, trap, leak, which.
  word.Do at each op.
  The runner: place, set, step.
  The runner: within, both, get, put.
  The runner: get, put.
  append(row, make([]int64, k)...), of a row of one's own.
  The runner: enter, leave.
-/
import Derived.Test.YtaomlahphlemdaaGreatDoorRunH
import Derived.Lib.AppendZerosOnto
namespace Go.Proofs.YtaomlahphlemdaaGreatDoor
open Go.ChangeShapes Go.WideShapes Go.ChangeAt Go.RowKit
set_option linter.unusedVariables false

/-- A leak: its kind, its two words. -/
structure Lk where
  kind : Int
  a : Int
  b : Int
deriving DecidableEq
/-- The runner. -/
structure Rn where
  orders : List Od
  bodies : List Bo
  next : Nat
  pile : List Int
  calls : List (Nat × Nat)
  fuel : Int
  val : Int
  trap : Int
  leaks : List Lk
  steps : Int
  deep : Int
  mem : List (List Int)
  fault : Int
  ended : Bool
def Rn.lay (r : Rn) (v : Int) : Rn := { r with pile := r.pile ++ [v] }
def Rn.pick (r : Rn) : Option (Int × Rn) :=
  match r.pile.getLast? with
  | some v => some (v, { r with pile := r.pile.dropLast })
  | none => none
def Rn.leak (r : Rn) (k a b : Int) : Rn := { r with leaks := r.leaks ++ [⟨k, a, b⟩] }
def boolI (b : Bool) : Int := if b then 1 else 0
def Rn.which (r : Rn) (b : Bool) : Rn := r.leak 1 (boolI b) 0
def Rn.fail (r : Rn) : Rn := { r with fault := 41, ended := true }
def Rn.stop (r : Rn) (t : Int) : Rn := { r with trap := t, ended := true }
/-- Where on the pile a word of the innermost call lies. -/
def Rn.place (r : Rn) (n : Int) : Option Nat :=
  match r.calls.getLast? with
  | some c => if 0 ≤ n ∧ n ≤ 1099511627776 then some (c.1 + n.toNat) else none
  | none => none
def Rn.getLocal (r : Rn) (n : Int) : Option Rn :=
  match r.place n with
  | some p => match r.pile[p]? with
    | some v => some (r.lay v)
    | none => none
  | none => none
def Rn.setPile (r : Rn) (p : Nat) (v : Int) : Rn := { r with pile := r.pile.set p v }
def Rn.setLocal (r : Rn) (n : Int) : Option Rn :=
  match r.pick with
  | some (v, q) => match q.place n with
    | some p => if p < q.pile.length then some (q.setPile p v) else none
    | none => none
  | none => none
def Rn.step (r : Rn) : Rn := if r.fuel ≤ r.steps then r.fail else { r with steps := r.steps + 1 }
/-- The words of a global. -/
def Rn.words (r : Rn) (n : Int) : Option (List Int) := if 0 ≤ n then r.mem[n.toNat]? else none
def Rn.getWord (r : Rn) (n : Int) : Option Rn :=
  match r.words n with
  | some (v :: _) => some (r.lay v)
  | _ => none
def Rn.setMem (r : Rn) (g i : Nat) (v : Int) : Rn := { r with mem := r.mem.set g ((r.mem.getD g []).set i v) }
def Rn.setWord (r : Rn) (n : Int) : Option Rn :=
  match r.words n with
  | some (_ :: _) => match r.pick with
    | some (v, q) => some (q.setMem n.toNat 0 v)
    | none => none
  | _ => none
/-- Is there such an index? -/
def inW (i : Int) (n : Nat) : Bool := decide (0 ≤ i) && decide (i < n)
def Rn.within (r : Rn) (n : Nat) (i : Int) : Rn := if inW i n then (r.which true).leak 2 i 0 else (r.which false).stop 1
def Rn.getItem (r : Rn) (n : Int) : Option Rn :=
  match r.words n with
  | some ws => match r.pick with
    | some (i, q) => if inW i ws.length then some ((q.within ws.length i).lay (ws.getD i.toNat 0)) else some (q.within ws.length i)
    | none => none
  | none => none
def Rn.putItem (r : Rn) (n : Int) : Option Rn :=
  match r.words n with
  | some ws => match r.pick with
    | some (v, q) => match q.pick with
      | some (i, s) => if inW i ws.length then some ((s.within ws.length i).setMem n.toNat i.toNat v) else some (s.within ws.length i)
      | none => none
    | none => none
  | none => none
/-- What an op makes of two words. -/
def doI (o a b : Int) : Int :=
  if o = 1 then wrap64 (a + b) else if o = 2 then wrap64 (a - b) else if o = 3 then wrap64 (a * b)
  else if o = 4 then wrap64 (a.tdiv b) else if o = 5 then a.tmod b
  else if o = 6 then bits .and .i64 a b else if o = 7 then bits .or .i64 a b else if o = 8 then bits .xor .i64 a b
  else if o = 9 then wrap64 (a * 2 ^ min (IntKind.u64.wrap (bits BinOp.and IntKind.i64 b 63)).toNat 64)
  else if o = 10 then a / 2 ^ min (IntKind.u64.wrap (bits BinOp.and IntKind.i64 b 63)).toNat 64
  else if o = 11 then boolI (a == b) else if o = 12 then boolI (a != b) else if o = 13 then boolI (decide (a < b))
  else if o = 14 then boolI (decide (a ≤ b)) else boolI (decide (IntKind.u64.wrap a < IntKind.u64.wrap b))
def Rn.both (r : Rn) (o : Int) : Option Rn :=
  match r.pick with
  | some (b, q) => match q.pick with
    | some (a, s) =>
      if 1 ≤ o ∧ o ≤ 15 then
        if o = 4 ∨ o = 5 then
          if b = 0 then some ((s.which false).stop 2) else some (((s.which true).leak 3 a b).lay (doI o a b))
        else some (s.lay (doI o a b))
      else none
    | none => none
  | none => none
def Rn.enter (r : Rn) (f : Int) : Option Rn :=
  if 2000 ≤ r.calls.length then some r.fail
  else if 0 ≤ f then
    match r.bodies[f.toNat]? with
    | some b =>
      if 0 ≤ b.start ∧ 0 ≤ b.params ∧ b.params ≤ b.words ∧ b.params ≤ r.pile.length ∧ b.words ≤ 1099511627776 then
        some { r with calls := r.calls ++ [((r.pile.length - b.params.toNat : Nat), r.next)], deep := max r.deep (r.calls.length + 1 : Nat), pile := r.pile ++ List.replicate (b.words - b.params).toNat 0, next := b.start.toNat }
      else none
    | none => none
  else none
def Rn.leave (r : Rn) : Option Rn :=
  match r.pick with
  | some (v, q) => match q.calls.getLast? with
    | some c =>
      if c.1 ≤ q.pile.length then
        if q.calls.length = 1 then some { q with calls := q.calls.dropLast, pile := q.pile.take c.1, next := c.2, val := v, ended := true }
        else some (Rn.lay { q with calls := q.calls.dropLast, pile := q.pile.take c.1, next := c.2 } v)
      else none
    | none => none
  | none => none
def Rn.goto (r : Rn) (n : Int) : Option Rn := if 0 ≤ n then some { r with next := n.toNat } else none
def Rn.turn (r : Rn) (o : Od) : Option Rn :=
  if o.deed = 11 then r.goto o.n
  else if o.deed = 12 then
    match r.pick with
    | some (v, q) => if v = 0 then (q.which false).goto o.n else some (q.which true)
    | none => none
  else if o.deed = 13 ∨ o.deed = 14 then
    match r.pick with
    | some (v, q) => if (!(v == 0)) == (o.deed == 14) then ((q.which (!(v == 0))).lay v).goto o.n else some (q.which (!(v == 0)))
    | none => none
  else some r
/-- One order. -/
def Rn.follow (r : Rn) : Option Rn :=
  match r.orders[r.next]? with
  | none => none
  | some o =>
    let q : Rn := { r with next := r.next + 1 }
    if o.deed = 0 then some q.step
    else if o.deed = 1 then some (q.lay o.n)
    else if o.deed = 2 then q.getLocal o.n
    else if o.deed = 3 then q.setLocal o.n
    else if o.deed = 4 then q.getWord o.n
    else if o.deed = 5 then q.setWord o.n
    else if o.deed = 6 then q.getItem o.n
    else if o.deed = 7 then q.putItem o.n
    else if o.deed = 8 then q.both o.n
    else if o.deed = 9 then (q.pick).map fun x => x.2.lay (wrap64 (1 - x.1))
    else if o.deed = 10 then (q.pick).map fun x => x.2
    else if o.deed = 15 then q.enter o.n
    else if o.deed = 16 then q.leave
    else q.turn o
end Go.Proofs.YtaomlahphlemdaaGreatDoor

namespace Go.Proofs.YtaomlahphlemdaaGreatDoor
open Go.ChangeShapes Go.WideShapes Go.ChangeAt Go.RowKit
set_option linter.unusedVariables false

structure RV where
  pv : Value
  cv : Value
  lv : Value
def RV.has (v : RV) (q : Nat) : Prop := v.pv.ownBlock = some q ∨ v.cv.ownBlock = some q ∨ v.lv.ownBlock = some q
def RX (Rb : Nat) (v : RV) (gs : List Nat) (q : Nat) : Prop := q = Rb ∨ v.has q ∨ q ∈ gs
structure WentR (Rb : Nat) (gs : List Nat) (v v' : RV) (w w' : World) : Prop where
  turn : Turn (RX Rb v gs) w w'
  own : ∀ q, v'.has q → v.has q ∨ w.heap.size ≤ q
theorem WentR.refl (Rb : Nat) (gs : List Nat) (v : RV) (w : World) : WentR Rb gs v v w w := ⟨Turn.refl _ _, fun q h => .inl h⟩
theorem WentR.trans {Rb : Nat} {gs : List Nat} {v1 v2 v3 : RV} {a b c : World} (h : WentR Rb gs v1 v2 a b) (k : WentR Rb gs v2 v3 b c) : WentR Rb gs v1 v3 a c :=
  ⟨h.turn.trans' k.turn (fun q hq hy => by
    rcases hy with hy | hy | hy
    · exact .inl hy
    · rcases h.own q hy with h1 | h1
      · exact .inr (.inl h1)
      · omega
    · exact .inr (.inr hy)), fun q hq => by
    rcases k.own q hq with h1 | h1
    · exact h.own q h1
    · have := h.turn.size; exact .inr (by omega)⟩
theorem WentR.alloc {Rb : Nat} {gs : List Nat} {v1 v2 : RV} {a b : World} (h : WentR Rb gs v1 v2 a b) (o : Obj) : WentR Rb gs v1 v2 a (b.alloc o) := ⟨h.turn.alloc o, h.own⟩
theorem WentR.drew {Rb : Nat} {gs : List Nat} {v1 v2 : RV} {a b : World} (h : WentR Rb gs v1 v2 a b) : WentR Rb gs v1 v2 a b.drew := ⟨h.turn.drew, h.own⟩
def iV (x : Int) : Value := .int .i64 x
def caV (c : Nat × Nat) : List Value := [.int .i64 (c.1 : Int), .int .i64 (c.2 : Int)]
def caCells (l : List (Nat × Nat)) : List Value := l.flatMap caV
def lkV (x : Lk) : List Value := [.int .i64 x.kind, .int .i64 x.a, .int .i64 x.b]
def lkCells (l : List Lk) : List Value := l.flatMap lkV
def memCells (gs : List Nat) (m : List (List Int)) : List Value := List.zipWith (fun g ws => Value.slice (some ⟨g, 0, none⟩) ws.length ws.length) gs m
def cellsRn (ov bv : Value) (mg n : Nat) (v : RV) (r : Rn) : Array Value := #[ov, bv, .int .i64 (r.next : Int), v.pv, v.cv, .int .i64 r.fuel, .int .i64 r.val, .int .i64 r.trap, v.lv, .int .i64 r.steps, .int .i64 r.deep, .slice (some ⟨mg, 0, none⟩) n n, .int .i64 r.fault, .bool r.ended]
/-- Block Rb is the runner. -/
structure Runs (B Rb : Nat) (ov bv : Value) (mg : Nat) (gs : List Nat) (v : RV) (r : Rn) (w : World) : Prop where
  blk : w.heap[Rb]? = some (.cells (cellsRn ov bv mg gs.length v r) 93 (0, 0))
  ord : w.ownsRow B 120 2 ov r.orders.length (odCells r.orders)
  bod : w.ownsRow B 115 3 bv r.bodies.length (boCells r.bodies)
  pile : w.ownsRow B 2 1 v.pv r.pile.length (r.pile.map iV)
  calls : w.ownsRow B 117 2 v.cv r.calls.length (caCells r.calls)
  leaks : w.ownsRow B 64 3 v.lv r.leaks.length (lkCells r.leaks)
  mem : w.heap[mg]? = some (.cells (memCells gs r.mem).toArray 59 (0, 0))
  same : gs.length = r.mem.length
  words : ∀ (i g : Nat) (ws : List Int), gs[i]? = some g → r.mem[i]? = some ws → w.heap[g]? = some (.cells (ws.map iV).toArray 2 (0, 0))
  nod : gs.Nodup
  apart : ∀ q, v.pv.ownBlock = some q → q ∉ gs
  low : B ≤ Rb ∧ ∀ q ∈ gs, B ≤ q
theorem Runs.lt {B Rb : Nat} {ov bv : Value} {mg : Nat} {gs : List Nat} {v : RV} {r : Rn} {w : World} (h : Runs B Rb ov bv mg gs v r w) : Rb < w.heap.size := (Array.getElem?_eq_some_iff.1 h.blk).1
/-- Each global's block is there. -/
theorem Runs.wordAt {B Rb : Nat} {ov bv : Value} {mg : Nat} {gs : List Nat} {v : RV} {r : Rn} {w : World} (h : Runs B Rb ov bv mg gs v r w) {q : Nat} (hq : q ∈ gs) : ∃ ws : List Int, w.heap[q]? = some (.cells (ws.map iV).toArray 2 (0, 0)) := by
  obtain ⟨i, hi, rfl⟩ := List.getElem_of_mem hq
  exact ⟨r.mem[i]'(by rw [← h.same]; exact hi), h.words i _ _ (List.getElem?_eq_getElem hi) (List.getElem?_eq_getElem (by rw [← h.same]; exact hi))⟩
theorem Runs.xlow {B Rb : Nat} {ov bv : Value} {mg : Nat} {gs : List Nat} {v : RV} {r : Rn} {w : World} (h : Runs B Rb ov bv mg gs v r w) : ∀ q, RX Rb v gs q → B ≤ q ∧ q < w.heap.size := by
  intro q hq
  rcases hq with rfl | (hq | hq | hq) | hq
  · exact ⟨h.low.1, h.lt⟩
  · exact h.pile.lt q hq
  · exact h.calls.lt q hq
  · exact h.leaks.lt q hq
  · obtain ⟨ws, hw⟩ := h.wordAt hq
    exact ⟨h.low.2 q hq, (Array.getElem?_eq_some_iff.1 hw).1⟩
theorem Runs.box {B Rb : Nat} {ov bv : Value} {mg : Nat} {gs : List Nat} {v : RV} {r : Rn} {w w' : World} {o : Obj} (h : Runs B Rb ov bv mg gs v r w) (ht : Turn (RX Rb v gs) (w.alloc o) w') : w'.heap[w.heap.size]? = some o :=
  (ht.block w.heap.size (by simp) (fun hx => by have := (h.xlow _ hx).2; omega)).trans (alloc_at _ _ _ rfl)
/-- No other block than these has turned: the runner is as it was. -/
theorem Runs.keep {B Rb : Nat} {ov bv : Value} {mg : Nat} {gs : List Nat} {v : RV} {r : Rn} {w w' : World} (h : Runs B Rb ov bv mg gs v r w) (hk : ∀ q, q < w.heap.size → w'.heap[q]? = w.heap[q]?) : Runs B Rb ov bv mg gs v r w' :=
  ⟨(hk _ h.lt).trans h.blk, own_keep h.ord (fun q hq => hk q (h.ord.lt q hq).2), own_keep h.bod (fun q hq => hk q (h.bod.lt q hq).2), own_keep h.pile (fun q hq => hk q (h.pile.lt q hq).2), own_keep h.calls (fun q hq => hk q (h.calls.lt q hq).2), own_keep h.leaks (fun q hq => hk q (h.leaks.lt q hq).2),
   (hk _ (Array.getElem?_eq_some_iff.1 h.mem).1).trans h.mem, h.same, fun i g ws hg hw => (hk _ (Array.getElem?_eq_some_iff.1 (h.words i g ws hg hw)).1).trans (h.words i g ws hg hw), h.nod, h.apart, h.low⟩
theorem Runs.alloc {B Rb : Nat} {ov bv : Value} {mg : Nat} {gs : List Nat} {v : RV} {r : Rn} {w : World} (h : Runs B Rb ov bv mg gs v r w) (o : Obj) : Runs B Rb ov bv mg gs v r (w.alloc o) := h.keep (fun q hq => Below.heap_alloc w o q hq)
theorem Runs.drew {B Rb : Nat} {ov bv : Value} {mg : Nat} {gs : List Nat} {v : RV} {r : Rn} {w : World} (h : Runs B Rb ov bv mg gs v r w) : Runs B Rb ov bv mg gs v r w.drew := h.keep (fun _ _ => rfl)
theorem Runs.open {B Rb : Nat} {ov bv : Value} {mg : Nat} {gs : List Nat} {v : RV} {r : Rn} {w : World} (h : Runs B Rb ov bv mg gs v r w) :
    (w.cell? ⟨Rb, 0, none⟩ = some ov ∧ w.cell? ⟨Rb, 1, none⟩ = some bv ∧ w.cell? ⟨Rb, 2, none⟩ = some (.int .i64 (r.next : Int)) ∧ w.cell? ⟨Rb, 3, none⟩ = some v.pv ∧ w.cell? ⟨Rb, 4, none⟩ = some v.cv ∧ w.cell? ⟨Rb, 5, none⟩ = some (.int .i64 r.fuel) ∧ w.cell? ⟨Rb, 6, none⟩ = some (.int .i64 r.val) ∧ w.cell? ⟨Rb, 7, none⟩ = some (.int .i64 r.trap) ∧ w.cell? ⟨Rb, 8, none⟩ = some v.lv ∧ w.cell? ⟨Rb, 9, none⟩ = some (.int .i64 r.steps) ∧ w.cell? ⟨Rb, 10, none⟩ = some (.int .i64 r.deep) ∧ w.cell? ⟨Rb, 11, none⟩ = some (.slice (some ⟨mg, 0, none⟩) gs.length gs.length) ∧ w.cell? ⟨Rb, 12, none⟩ = some (.int .i64 r.fault) ∧ w.cell? ⟨Rb, 13, none⟩ = some (.bool r.ended)) ∧ ∀ j, w.frozen? ⟨Rb, j, none⟩ = false := by
  refine ⟨⟨?_, ?_, ?_, ?_, ?_, ?_, ?_, ?_, ?_, ?_, ?_, ?_, ?_, ?_⟩, fun j => Lib.frozen_of_heap h.blk j⟩ <;> (rw [Lib.cell_of_heap h.blk]; rfl)
theorem elem_of {w : World} {b : Nat} {cs cs' : Array Value} {t t' : TypeId} {z z' : Nat × Nat} (h : w.heap[b]? = some (.cells cs t z)) (h' : w.heap[b]? = some (.cells cs' t' z')) : t = t' := by
  rw [h] at h'
  injection h' with h'
  injection h'
theorem Runs.notRb {B Rb : Nat} {ov bv : Value} {mg : Nat} {gs : List Nat} {v : RV} {r : Rn} {w : World} (h : Runs B Rb ov bv mg gs v r w) : (∀ q, ov.ownBlock = some q → q ≠ Rb) ∧ (∀ q, bv.ownBlock = some q → q ≠ Rb) ∧ (∀ q, v.pv.ownBlock = some q → q ≠ Rb) ∧ (∀ q, v.cv.ownBlock = some q → q ≠ Rb) ∧ (∀ q, v.lv.ownBlock = some q → q ≠ Rb) ∧ mg ≠ Rb ∧ ∀ q ∈ gs, q ≠ Rb := by
  refine ⟨own_ne h.ord h.blk (by decide), own_ne h.bod h.blk (by decide), own_ne h.pile h.blk (by decide), own_ne h.calls h.blk (by decide), own_ne h.leaks h.blk (by decide), fun e => ?_, fun q hq e => ?_⟩
  · have h1 := h.mem; rw [e] at h1; exact absurd (elem_of h1 h.blk) (by decide)
  · obtain ⟨ws, hw⟩ := h.wordAt hq; rw [e] at hw; exact absurd (elem_of hw h.blk) (by decide)
/-- One of its cells has turned. -/
theorem Runs.cell {B Rb : Nat} {ov bv : Value} {mg : Nat} {gs : List Nat} {v : RV} {r : Rn} {w : World} (h : Runs B Rb ov bv mg gs v r w) (j : Nat) (x : Value) (r' : Rn) (hc : (cellsRn ov bv mg gs.length v r).setIfInBounds j x = cellsRn ov bv mg gs.length v r')
    (h1 : r'.orders = r.orders) (h2 : r'.bodies = r.bodies) (h3 : r'.pile = r.pile) (h4 : r'.calls = r.calls) (h5 : r'.leaks = r.leaks) (h6 : r'.mem = r.mem) : Runs B Rb ov bv mg gs v r' (w.setCell ⟨Rb, j, none⟩ x) ∧ WentR Rb gs v v w (w.setCell ⟨Rb, j, none⟩ x) := by
  obtain ⟨n1, n2, n3, n4, n5, n6, n7⟩ := h.notRb
  have hs : ∀ q, q ≠ Rb → (w.setCell ⟨Rb, j, none⟩ x).heap[q]? = w.heap[q]? := fun q hq => Below.heap_setCell _ _ _ _ hq
  refine ⟨⟨?_, ?_, ?_, ?_, ?_, ?_, ?_, ?_, ?_, h.nod, h.apart, h.low⟩, ⟨(Turn.refl _ w).put Rb j x (.inl (.inl rfl)), fun q hq => .inl hq⟩⟩
  · rw [set_block _ _ _ _ _ _ h.blk, hc]
  · rw [h1]; exact own_keep h.ord (fun q hq => hs q (n1 q hq))
  · rw [h2]; exact own_keep h.bod (fun q hq => hs q (n2 q hq))
  · rw [h3]; exact own_keep h.pile (fun q hq => hs q (n3 q hq))
  · rw [h4]; exact own_keep h.calls (fun q hq => hs q (n4 q hq))
  · rw [h5]; exact own_keep h.leaks (fun q hq => hs q (n5 q hq))
  · rw [h6]; exact (hs mg n6).trans h.mem
  · rw [h6]; exact h.same
  · intro i g ws hg hw
    rw [h6] at hw
    exact (hs g (n7 g (List.mem_of_getElem? hg))).trans (h.words i g ws hg hw)
/-- The pile is another one: in its own block, or in a new one. -/
theorem Runs.piled {B Rb : Nat} {ov bv : Value} {mg : Nat} {gs : List Nat} {v : RV} {r : Rn} {w w' : World} (h : Runs B Rb ov bv mg gs v r w) (pv' : Value) (xs : List Int) (hg : w.grownBy w' v.pv.ownBlock) (ho : w'.ownsRow B 2 1 pv' xs.length (xs.map iV)) (hat : ∀ q, pv'.ownBlock = some q → v.pv.ownBlock = some q ∨ w.heap.size ≤ q) :
    Runs B Rb ov bv mg gs { v with pv := pv' } { r with pile := xs } (w'.setCell ⟨Rb, 3, none⟩ pv') ∧ WentR Rb gs v { v with pv := pv' } w (w'.setCell ⟨Rb, 3, none⟩ pv') := by
  obtain ⟨n1, n2, n3, n4, n5, n6, n7⟩ := h.notRb
  have hb : ∀ q, q < w.heap.size → v.pv.ownBlock ≠ some q → w'.heap[q]? = w.heap[q]? := fun q hq hne => hg.block q hq (fun e => hne e.symm)
  have hs : ∀ q, q ≠ Rb → (w'.setCell ⟨Rb, 3, none⟩ pv').heap[q]? = w'.heap[q]? := fun q hq => Below.heap_setCell _ _ _ _ hq
  have hWb : w'.heap[Rb]? = some (.cells (cellsRn ov bv mg gs.length v r) 93 (0, 0)) := (hb Rb h.lt (fun e => n3 _ e rfl)).trans h.blk
  have hw : ∀ (i g : Nat) (ws : List Int), gs[i]? = some g → r.mem[i]? = some ws → w'.heap[g]? = some (.cells (ws.map iV).toArray 2 (0, 0)) := fun i g ws h1 h2 => (hb g (Array.getElem?_eq_some_iff.1 (h.words i g ws h1 h2)).1 (fun e => h.apart g e (List.mem_of_getElem? h1))).trans (h.words i g ws h1 h2)
  refine ⟨⟨?_, ?_, ?_, ?_, ?_, ?_, ?_, h.same, ?_, h.nod, ?_, h.low⟩, ⟨?_, ?_⟩⟩
  · rw [set_block _ _ _ _ _ _ hWb]; rfl
  · exact own_keep h.ord (fun q hq => (hs q (n1 q hq)).trans (hb q (h.ord.lt q hq).2 (own_ne2 h.ord h.pile (by decide) q hq)))
  · exact own_keep h.bod (fun q hq => (hs q (n2 q hq)).trans (hb q (h.bod.lt q hq).2 (own_ne2 h.bod h.pile (by decide) q hq)))
  · exact own_keep ho (fun q hq => hs q (own_ne ho hWb (by decide) q hq))
  · exact own_keep h.calls (fun q hq => (hs q (n4 q hq)).trans (hb q (h.calls.lt q hq).2 (own_ne2 h.calls h.pile (by decide) q hq)))
  · exact own_keep h.leaks (fun q hq => (hs q (n5 q hq)).trans (hb q (h.leaks.lt q hq).2 (own_ne2 h.leaks h.pile (by decide) q hq)))
  · exact (hs mg n6).trans ((hb mg (Array.getElem?_eq_some_iff.1 h.mem).1 (fun e => own_ne h.pile h.mem (by decide) _ e rfl)).trans h.mem)
  · exact fun i g ws h1 h2 => (hs g (n7 g (List.mem_of_getElem? h1))).trans (hw i g ws h1 h2)
  · intro q hq hm
    rcases hat q hq with h1 | h1
    · exact h.apart q h1 hm
    · obtain ⟨ws, hw⟩ := h.wordAt hm
      have := (Array.getElem?_eq_some_iff.1 hw).1; omega
  · refine ⟨hg.os, hg.tape, hg.output, by have := hg.size; simpa using this, fun q hq hx => ?_⟩
    exact (hs q (fun e => hx (.inl e))).trans (hb q hq (fun e => hx (.inr (.inl (.inl e)))))
  · rintro q (hq | hq | hq)
    · rcases hat q hq with h1 | h1
      · exact .inl (.inl h1)
      · exact .inr h1
    · exact .inl (.inr (.inl hq))
    · exact .inl (.inr (.inr hq))
/-- The calls are others. -/
theorem Runs.called {B Rb : Nat} {ov bv : Value} {mg : Nat} {gs : List Nat} {v : RV} {r : Rn} {w w' : World} (h : Runs B Rb ov bv mg gs v r w) (cv' : Value) (xs : List (Nat × Nat)) (hg : w.grownBy w' v.cv.ownBlock) (ho : w'.ownsRow B 117 2 cv' xs.length (caCells xs)) (hat : ∀ q, cv'.ownBlock = some q → v.cv.ownBlock = some q ∨ w.heap.size ≤ q) :
    Runs B Rb ov bv mg gs { v with cv := cv' } { r with calls := xs } (w'.setCell ⟨Rb, 4, none⟩ cv') ∧ WentR Rb gs v { v with cv := cv' } w (w'.setCell ⟨Rb, 4, none⟩ cv') := by
  obtain ⟨n1, n2, n3, n4, n5, n6, n7⟩ := h.notRb
  have hb : ∀ q, q < w.heap.size → v.cv.ownBlock ≠ some q → w'.heap[q]? = w.heap[q]? := fun q hq hne => hg.block q hq (fun e => hne e.symm)
  have hs : ∀ q, q ≠ Rb → (w'.setCell ⟨Rb, 4, none⟩ cv').heap[q]? = w'.heap[q]? := fun q hq => Below.heap_setCell _ _ _ _ hq
  have hWb : w'.heap[Rb]? = some (.cells (cellsRn ov bv mg gs.length v r) 93 (0, 0)) := (hb Rb h.lt (fun e => n4 _ e rfl)).trans h.blk
  have hw : ∀ (i g : Nat) (ws : List Int), gs[i]? = some g → r.mem[i]? = some ws → w'.heap[g]? = some (.cells (ws.map iV).toArray 2 (0, 0)) := fun i g ws h1 h2 => (hb g (Array.getElem?_eq_some_iff.1 (h.words i g ws h1 h2)).1 (fun e => own_ne h.calls (h.words i g ws h1 h2) (by decide) _ e rfl)).trans (h.words i g ws h1 h2)
  refine ⟨⟨?_, ?_, ?_, ?_, ?_, ?_, ?_, h.same, ?_, h.nod, h.apart, h.low⟩, ⟨?_, ?_⟩⟩
  · rw [set_block _ _ _ _ _ _ hWb]; rfl
  · exact own_keep h.ord (fun q hq => (hs q (n1 q hq)).trans (hb q (h.ord.lt q hq).2 (own_ne2 h.ord h.calls (by decide) q hq)))
  · exact own_keep h.bod (fun q hq => (hs q (n2 q hq)).trans (hb q (h.bod.lt q hq).2 (own_ne2 h.bod h.calls (by decide) q hq)))
  · exact own_keep h.pile (fun q hq => (hs q (n3 q hq)).trans (hb q (h.pile.lt q hq).2 (own_ne2 h.pile h.calls (by decide) q hq)))
  · exact own_keep ho (fun q hq => hs q (own_ne ho hWb (by decide) q hq))
  · exact own_keep h.leaks (fun q hq => (hs q (n5 q hq)).trans (hb q (h.leaks.lt q hq).2 (own_ne2 h.leaks h.calls (by decide) q hq)))
  · exact (hs mg n6).trans ((hb mg (Array.getElem?_eq_some_iff.1 h.mem).1 (fun e => own_ne h.calls h.mem (by decide) _ e rfl)).trans h.mem)
  · exact fun i g ws h1 h2 => (hs g (n7 g (List.mem_of_getElem? h1))).trans (hw i g ws h1 h2)
  · refine ⟨hg.os, hg.tape, hg.output, by have := hg.size; simpa using this, fun q hq hx => ?_⟩
    exact (hs q (fun e => hx (.inl e))).trans (hb q hq (fun e => hx (.inr (.inl (.inr (.inl e))))))
  · rintro q (hq | hq | hq)
    · exact .inl (.inl hq)
    · rcases hat q hq with h1 | h1
      · exact .inl (.inr (.inl h1))
      · exact .inr h1
    · exact .inl (.inr (.inr hq))
/-- The leaks are others. -/
theorem Runs.leaked {B Rb : Nat} {ov bv : Value} {mg : Nat} {gs : List Nat} {v : RV} {r : Rn} {w w' : World} (h : Runs B Rb ov bv mg gs v r w) (lv' : Value) (xs : List Lk) (hg : w.grownBy w' v.lv.ownBlock) (ho : w'.ownsRow B 64 3 lv' xs.length (lkCells xs)) (hat : ∀ q, lv'.ownBlock = some q → v.lv.ownBlock = some q ∨ w.heap.size ≤ q) :
    Runs B Rb ov bv mg gs { v with lv := lv' } { r with leaks := xs } (w'.setCell ⟨Rb, 8, none⟩ lv') ∧ WentR Rb gs v { v with lv := lv' } w (w'.setCell ⟨Rb, 8, none⟩ lv') := by
  obtain ⟨n1, n2, n3, n4, n5, n6, n7⟩ := h.notRb
  have hb : ∀ q, q < w.heap.size → v.lv.ownBlock ≠ some q → w'.heap[q]? = w.heap[q]? := fun q hq hne => hg.block q hq (fun e => hne e.symm)
  have hs : ∀ q, q ≠ Rb → (w'.setCell ⟨Rb, 8, none⟩ lv').heap[q]? = w'.heap[q]? := fun q hq => Below.heap_setCell _ _ _ _ hq
  have hWb : w'.heap[Rb]? = some (.cells (cellsRn ov bv mg gs.length v r) 93 (0, 0)) := (hb Rb h.lt (fun e => n5 _ e rfl)).trans h.blk
  have hw : ∀ (i g : Nat) (ws : List Int), gs[i]? = some g → r.mem[i]? = some ws → w'.heap[g]? = some (.cells (ws.map iV).toArray 2 (0, 0)) := fun i g ws h1 h2 => (hb g (Array.getElem?_eq_some_iff.1 (h.words i g ws h1 h2)).1 (fun e => own_ne h.leaks (h.words i g ws h1 h2) (by decide) _ e rfl)).trans (h.words i g ws h1 h2)
  refine ⟨⟨?_, ?_, ?_, ?_, ?_, ?_, ?_, h.same, ?_, h.nod, h.apart, h.low⟩, ⟨?_, ?_⟩⟩
  · rw [set_block _ _ _ _ _ _ hWb]; rfl
  · exact own_keep h.ord (fun q hq => (hs q (n1 q hq)).trans (hb q (h.ord.lt q hq).2 (own_ne2 h.ord h.leaks (by decide) q hq)))
  · exact own_keep h.bod (fun q hq => (hs q (n2 q hq)).trans (hb q (h.bod.lt q hq).2 (own_ne2 h.bod h.leaks (by decide) q hq)))
  · exact own_keep h.pile (fun q hq => (hs q (n3 q hq)).trans (hb q (h.pile.lt q hq).2 (own_ne2 h.pile h.leaks (by decide) q hq)))
  · exact own_keep h.calls (fun q hq => (hs q (n4 q hq)).trans (hb q (h.calls.lt q hq).2 (own_ne2 h.calls h.leaks (by decide) q hq)))
  · exact own_keep ho (fun q hq => hs q (own_ne ho hWb (by decide) q hq))
  · exact (hs mg n6).trans ((hb mg (Array.getElem?_eq_some_iff.1 h.mem).1 (fun e => own_ne h.leaks h.mem (by decide) _ e rfl)).trans h.mem)
  · exact fun i g ws h1 h2 => (hs g (n7 g (List.mem_of_getElem? h1))).trans (hw i g ws h1 h2)
  · refine ⟨hg.os, hg.tape, hg.output, by have := hg.size; simpa using this, fun q hq hx => ?_⟩
    exact (hs q (fun e => hx (.inl e))).trans (hb q hq (fun e => hx (.inr (.inl (.inr (.inr e))))))
  · rintro q (hq | hq | hq)
    · exact .inl (.inl hq)
    · exact .inl (.inr (.inl hq))
    · rcases hat q hq with h1 | h1
      · exact .inl (.inr (.inr h1))
      · exact .inr h1
def RPost (B Rb : Nat) (ov bv : Value) (mg : Nat) (gs : List Nat) (v : RV) (r' : Rn) (x : Value) (w : World) (e : Ending) (w' : World) : Prop := e = .returned x ∧ ∃ v', WentR Rb gs v v' w w' ∧ Runs B Rb ov bv mg gs v' r' w'
end Go.Proofs.YtaomlahphlemdaaGreatDoor

namespace Go.Proofs.YtaomlahphlemdaaGreatDoor
open Go.ChangeShapes Go.WideShapes Go.ChangeAt Go.RowKit
set_option linter.unusedVariables false

theorem infoI64 : (Tryz.prog.info? 2).map (fun i => (i.zero, i.size, i.bytes)) = some (some (.int .i64 0), 1, 8) := by kernel_rfl
theorem infoLeak : (Tryz.prog.info? 64).map (fun i => (i.zero, i.size, i.bytes)) = some (some (.agg #[.int .i64 0, .int .i64 0, .int .i64 0]), 3, 24) := by kernel_rfl
theorem i_one (a : Int) : ∀ u ∈ [Value.int .i64 a], u.oneCell' = true := by
  intro u hu
  simp only [List.mem_cons, List.not_mem_nil, or_false] at hu
  rw [hu]; rfl
theorem lk_one (a b c : Int) : ∀ u ∈ [Value.int .i64 a, .int .i64 b, .int .i64 c], u.oneCell' = true := by
  intro u hu
  simp only [List.mem_cons, List.not_mem_nil, or_false] at hu
  rcases hu with rfl | rfl | rfl <;> rfl
theorem grown_self (w : World) (r : Option Nat) : w.grownBy w r := ⟨rfl, rfl, rfl, Nat.le_refl _, fun _ _ _ => rfl⟩
/-- A row, cut short. -/
theorem own_take {w : World} {B : Nat} {e : TypeId} {s n m cap : Nat} {a : Option Addr} {xs : List Value} (h : w.ownsRow B e s (.slice a n cap) n xs) (hm : m ≤ n) (ha : m < n) : w.ownsRow B e s (.slice a m cap) m (xs.take (m * s)) := by
  have hl := h.1
  refine ⟨by rw [List.length_take, hl]; exact Nat.min_eq_left (Nat.mul_le_mul_right s hm), ?_⟩
  rcases h.2 with ⟨h1, h2⟩ | ⟨g, cap', cur, h1, hb, hgg, hn, hc, hcs, htk⟩
  · omega
  · cases h1
    refine .inr ⟨g, cap, cur, rfl, hb, hgg, by omega, hc, hcs, ?_⟩
    rw [← htk, List.take_take, Nat.min_eq_left (Nat.mul_le_mul_right s hm)]
set_option maxHeartbeats 1000000 in
set_option maxRecDepth 100000 in
theorem lay_any {B Rb : Nat} {ov bv : Value} {mg : Nat} {gs : List Nat} {v : RV} {r : Rn} {w : World} (h : Runs B Rb ov bv mg gs v r w) (hz : r.pile.length ≤ 1099511627776) (x : Int) : Calls Tryz.prog 47 #[.pointer (some ⟨Rb, 0, none⟩), .int .i64 x] w (RPost B Rb ov bv mg gs v (r.lay x) (.tuple #[]) w) := by
  obtain ⟨pv, cv, lv⟩ := v
  obtain ⟨i0, hi, hz0⟩ := Option.map_eq_some_iff.1 infoI64
  obtain ⟨h1, h2, h3⟩ : i0.zero = some (.int .i64 0) ∧ i0.size = 1 ∧ i0.bytes = 8 := by simpa using hz0
  have HI := Lib.hid hi; have HZ0 := Lib.hid h1; have HZ1 := Lib.hid h2; have HZ2 := Lib.hid h3
  have HR := Lib.hid h
  have hlt := h.lt
  have hB := h.low.1
  obtain ⟨⟨_, _, _, c3, _⟩, hf⟩ := h.open
  have f3 := hf 3
  obtain ⟨a, cap, h4, _⟩ := own_slice h.pile
  dsimp only at h4 c3
  subst h4
  clear h hf hi h1 h2 h3 hz0
  go_enter Tryz.func47, Tryz.ntmps47
  go_wp2_with (first | (at_builtin; refine wpList_append_lies _ rfl _ _ 59 rfl B 2 i0 (.int .i64 0) 1 8 Tryz.underlying59 HI.out HZ0.out HZ1.out HZ2.out rfl (by decide) _ r.pile.length (r.pile.map iV) rfl ?hown ⟨w.heap.size, 0, none⟩ 1 1 [.int .i64 x] rfl rfl ?hnews (i_one _) (by decide) ?h63 ?hby ?hba (w.heap.size + 1) ?hH ?_))
  case hown => exact HR.out.pile.alloc _
  all_goals try (case hnews => exact cells_at _ [.int .i64 x] _ _ rfl)
  case h63 => unfold maxLen; omega
  case hby => omega
  case hba => first | omega | (simp; omega)
  all_goals try (case hH => simp)
  intro b2 cap2 w4 hown4 hgr4 hat4 hlt4
  obtain ⟨hr, ht⟩ := (HR.out.alloc _).piled (.slice (some ⟨b2, 0, none⟩) (r.pile.length + 1) cap2) (r.pile ++ [x]) hgr4 (by rw [List.length_append, List.map_append]; exact hown4) (fun q hq => by
    cases hq
    rcases hat4 with h | h
    · exact .inl h
    · exact .inr (by show _ ≤ b2; simp; omega))
  have HR4 := Lib.hid hr; have HT4 := Lib.hid ht
  have hne : ∀ q, (Value.slice a r.pile.length cap).ownBlock = some q → q ≠ Rb := HR.out.notRb.2.2.1
  have hW4 : Rb < w4.heap.size := by have := hgr4.size; simp at this; omega
  have c4 : w4.cell? ⟨Rb, 3, none⟩ = some (.slice a r.pile.length cap) := (World.cell?_of_block (hgr4.block Rb (by simp; omega) (fun e => hne _ e.symm rfl))).trans ((World.cell?_of_block (Below.heap_alloc w _ Rb hlt)).trans c3)
  have f4 : w4.frozen? ⟨Rb, 3, none⟩ = false := (World.frozen?_of_block (hgr4.block Rb (by simp; omega) (fun e => hne _ e.symm rfl))).trans ((World.frozen?_of_block (Below.heap_alloc w _ Rb hlt)).trans f3)
  clear hr ht hown4 hgr4 hat4 c3 f3 hne
  go_wp2_with (fail)
  go_end0
  exact ⟨rfl, _, ((WentR.refl _ _ _ _).alloc _).trans HT4.out, HR4.out⟩
set_option maxHeartbeats 1000000 in
set_option maxRecDepth 100000 in
theorem leak_any {B Rb : Nat} {ov bv : Value} {mg : Nat} {gs : List Nat} {v : RV} {r : Rn} {w : World} (h : Runs B Rb ov bv mg gs v r w) (hz : r.leaks.length ≤ 1099511627776) (x y z : Int) : Calls Tryz.prog 74 #[.pointer (some ⟨Rb, 0, none⟩), .int .i64 x, .int .i64 y, .int .i64 z] w (RPost B Rb ov bv mg gs v (r.leak x y z) (.tuple #[]) w) := by
  obtain ⟨pv, cv, lv⟩ := v
  obtain ⟨i0, hi, hz0⟩ := Option.map_eq_some_iff.1 infoLeak
  obtain ⟨h1, h2, h3⟩ : i0.zero = some (.agg #[.int .i64 0, .int .i64 0, .int .i64 0]) ∧ i0.size = 3 ∧ i0.bytes = 24 := by simpa using hz0
  have HI := Lib.hid hi; have HZ0 := Lib.hid h1; have HZ1 := Lib.hid h2; have HZ2 := Lib.hid h3
  have HR := Lib.hid h
  have hlt := h.lt
  have hB := h.low.1
  obtain ⟨⟨_, _, _, _, _, _, _, _, c8, _⟩, hf⟩ := h.open
  have f8 := hf 8
  obtain ⟨a, cap, h4, _⟩ := own_slice h.leaks
  dsimp only at h4 c8
  subst h4
  clear h hf hi h1 h2 h3 hz0
  go_enter Tryz.func74, Tryz.ntmps74
  go_wp2_with (first | (at_builtin; refine wpList_append_lies _ rfl _ _ 31 rfl B 64 i0 (.agg #[.int .i64 0, .int .i64 0, .int .i64 0]) 3 24 Tryz.underlying31 HI.out HZ0.out HZ1.out HZ2.out rfl (by decide) _ r.leaks.length (lkCells r.leaks) rfl ?hown ⟨w.heap.size, 0, none⟩ 1 1 [.int .i64 x, .int .i64 y, .int .i64 z] rfl rfl ?hnews (lk_one _ _ _) (by decide) ?h63 ?hby ?hba (w.heap.size + 1) ?hH ?_))
  case hown => exact HR.out.leaks.alloc _
  all_goals try (case hnews => exact cells_at _ [.int .i64 x, .int .i64 y, .int .i64 z] _ _ rfl)
  case h63 => unfold maxLen; omega
  case hby => omega
  case hba => first | omega | (simp; omega)
  all_goals try (case hH => simp)
  intro b2 cap2 w4 hown4 hgr4 hat4 hlt4
  obtain ⟨hr, ht⟩ := (HR.out.alloc _).leaked (.slice (some ⟨b2, 0, none⟩) (r.leaks.length + 1) cap2) (r.leaks ++ [⟨x, y, z⟩]) hgr4 (by rw [List.length_append, show lkCells (r.leaks ++ [⟨x, y, z⟩]) = lkCells r.leaks ++ [.int .i64 x, .int .i64 y, .int .i64 z] by simp [lkCells, lkV]]; exact hown4) (fun q hq => by
    cases hq
    rcases hat4 with h | h
    · exact .inl h
    · exact .inr (by show _ ≤ b2; simp; omega))
  have HR4 := Lib.hid hr; have HT4 := Lib.hid ht
  have hne : ∀ q, (Value.slice a r.leaks.length cap).ownBlock = some q → q ≠ Rb := HR.out.notRb.2.2.2.2.1
  have hW4 : Rb < w4.heap.size := by have := hgr4.size; simp at this; omega
  have c4 : w4.cell? ⟨Rb, 8, none⟩ = some (.slice a r.leaks.length cap) := (World.cell?_of_block (hgr4.block Rb (by simp; omega) (fun e => hne _ e.symm rfl))).trans ((World.cell?_of_block (Below.heap_alloc w _ Rb hlt)).trans c8)
  have f4 : w4.frozen? ⟨Rb, 8, none⟩ = false := (World.frozen?_of_block (hgr4.block Rb (by simp; omega) (fun e => hne _ e.symm rfl))).trans ((World.frozen?_of_block (Below.heap_alloc w _ Rb hlt)).trans f8)
  clear hr ht hown4 hgr4 hat4 c8 f8 hne
  go_wp2_with (fail)
  go_end0
  exact ⟨rfl, _, ((WentR.refl _ _ _ _).alloc _).trans HT4.out, HR4.out⟩
set_option maxHeartbeats 1000000 in
set_option maxRecDepth 100000 in
theorem fail_run {B Rb : Nat} {ov bv : Value} {mg : Nat} {gs : List Nat} {v : RV} {r : Rn} {w : World} (h : Runs B Rb ov bv mg gs v r w) : Calls Tryz.prog 45 #[.pointer (some ⟨Rb, 0, none⟩)] w (RPost B Rb ov bv mg gs v r.fail (.tuple #[]) w) := by
  have hlt := h.lt
  obtain ⟨⟨_, _, _, _, _, _, _, _, _, _, _, _, c12, c13⟩, hf⟩ := h.open
  have f12 := hf 12; have f13 := hf 13
  obtain ⟨h1, t1⟩ := h.cell 12 (.int .i64 41) { r with fault := 41 } rfl rfl rfl rfl rfl rfl rfl
  obtain ⟨h2, t2⟩ := h1.cell 13 (.bool true) { r with fault := 41, ended := true } rfl rfl rfl rfl rfl rfl rfl
  have HR := Lib.hid h2; have HT := Lib.hid (t1.trans t2)
  clear h hf h1 t1 h2 t2
  go_enter Tryz.func45, Tryz.ntmps45
  go_wp2_with (fail)
  go_end0
  exact ⟨rfl, _, HT.out, HR.out⟩
set_option maxHeartbeats 1000000 in
set_option maxRecDepth 100000 in
theorem trap_run {B Rb : Nat} {ov bv : Value} {mg : Nat} {gs : List Nat} {v : RV} {r : Rn} {w : World} (h : Runs B Rb ov bv mg gs v r w) (t : Int) : Calls Tryz.prog 73 #[.pointer (some ⟨Rb, 0, none⟩), .int .i64 t] w (RPost B Rb ov bv mg gs v (r.stop t) (.tuple #[]) w) := by
  have hlt := h.lt
  obtain ⟨⟨_, _, _, _, _, _, _, c7, _, _, _, _, _, c13⟩, hf⟩ := h.open
  have f7 := hf 7; have f13 := hf 13
  obtain ⟨h1, t1⟩ := h.cell 7 (.int .i64 t) { r with trap := t } rfl rfl rfl rfl rfl rfl rfl
  obtain ⟨h2, t2⟩ := h1.cell 13 (.bool true) { r with trap := t, ended := true } rfl rfl rfl rfl rfl rfl rfl
  have HR := Lib.hid h2; have HT := Lib.hid (t1.trans t2)
  clear h hf h1 t1 h2 t2
  go_enter Tryz.func73, Tryz.ntmps73
  go_wp2_with (fail)
  go_end0
  exact ⟨rfl, _, HT.out, HR.out⟩
theorem boolI_run (b : Bool) (w : World) : Calls Tryz.prog 20 #[.bool b] w fun e w' => e = .returned (.int .i64 (boolI b)) ∧ w' = w := by
  cases b
  · exact bool_false w
  · exact bool_true w
set_option maxHeartbeats 1000000 in
set_option maxRecDepth 100000 in
theorem which_run {B Rb : Nat} {ov bv : Value} {mg : Nat} {gs : List Nat} {v : RV} {r : Rn} {w : World} (h : Runs B Rb ov bv mg gs v r w) (hz : r.leaks.length ≤ 1099511627776) (b : Bool) : Calls Tryz.prog 72 #[.pointer (some ⟨Rb, 0, none⟩), .bool b] w (RPost B Rb ov bv mg gs v (r.which b) (.bool b) w) := by
  have HR := Lib.hid h
  have HE := Lib.hid (show r.which b = r.leak 1 (boolI b) 0 from rfl)
  rw [HE.out]
  clear h
  go_enter Tryz.func72, Tryz.ntmps72
  go_wp2_with (fail)
  refine (boolI_run b _).mono ?_
  rintro e w1 ⟨rfl, rfl⟩
  generalize boolI b = y at *
  go_wp2_with (fail)
  refine (leak_any HR.out hz 1 y 0).mono ?_
  rintro e w2 ⟨rfl, v2, ht2, hr2⟩
  have HT2 := Lib.hid ht2; have HR2 := Lib.hid hr2
  clear ht2 hr2
  go_wp2_with (fail)
  go_ret
  exact ⟨rfl, v2, HT2.out, HR2.out⟩
set_option maxHeartbeats 1000000 in
set_option maxRecDepth 100000 in
theorem pick_any {B Rb : Nat} {ov bv : Value} {mg : Nat} {gs : List Nat} {v : RV} {r : Rn} {w : World} (h : Runs B Rb ov bv mg gs v r w) (hz : r.pile.length ≤ 1099511627776) (xs : List Int) (x : Int) (hp : r.pile = xs ++ [x]) : Calls Tryz.prog 50 #[.pointer (some ⟨Rb, 0, none⟩)] w (RPost B Rb ov bv mg gs v { r with pile := xs } (.int .i64 x) w) := by
  obtain ⟨pv, cv, lv⟩ := v
  have HR := Lib.hid h
  have hlt := h.lt
  obtain ⟨⟨_, _, _, c3, _⟩, hf⟩ := h.open
  have f3 := hf 3
  have hlen : r.pile.length = xs.length + 1 := by rw [hp]; simp
  have hown := h.pile
  dsimp only at hown c3
  rw [hlen] at hown
  have hrow : ∃ g cap, pv = .slice (some ⟨g, 0, none⟩) (xs.length + 1) cap ∧ xs.length + 1 ≤ cap ∧ g < w.heap.size ∧ w.cell? ⟨g, xs.length, none⟩ = some (.int .i64 x) := by
    rcases hown.2 with ⟨_, h0⟩ | ⟨g, cap, cur, h1, hb, hgg, hn, hc, hcs, htk⟩
    · omega
    · refine ⟨g, cap, h1, hn, (Array.getElem?_eq_some_iff.1 hgg).1, ?_⟩
      have h2 := hown.cells (g := g) (by rw [h1]; rfl) xs.length (.int .i64 x) (by rw [hp]; simp [iV])
      rwa [Go.WideShapes.add_plain, Nat.zero_add] at h2
  obtain ⟨g, cap, rfl, hcap, hgl, hcell⟩ := hrow
  obtain ⟨hr, ht⟩ := h.piled (.slice (some ⟨g, 0, none⟩) xs.length cap) xs (grown_self w _) (by
    have := own_take hown (m := xs.length) (by omega) (by omega)
    rw [Nat.mul_one, hp, List.map_append] at this
    rw [show (xs.map iV ++ [x].map iV).take xs.length = xs.map iV by rw [List.take_append_of_le_length (by simp)]; exact List.take_of_length_le (by simp)] at this
    exact this) (fun q hq => .inl hq)
  have HR4 := Lib.hid hr; have HT4 := Lib.hid ht
  generalize xs.length = m at *
  have hm : m ≤ 1099511627776 := by omega
  clear h hf hr ht hown hlen hp hz
  go_enter Tryz.func50, Tryz.ntmps50
  go_wp2_with (fail)
  go_ret
  exact ⟨rfl, _, HT4.out, HR4.out⟩
end Go.Proofs.YtaomlahphlemdaaGreatDoor

namespace Go.Proofs.YtaomlahphlemdaaGreatDoor
open Go.ChangeShapes Go.WideShapes Go.ChangeAt Go.RowKit
set_option linter.unusedVariables false

/-- A truth as a word. -/
def b01 (b : Bool) : Int := if b then 1 else 0
theorem do_add (a b : Int) (w : World) :
    Calls Tryz.prog 17 #[.int .i64 1, .int .i64 a, .int .i64 b] w fun e w' => e = .returned (.tuple #[.int .i64 (wrap64 (a + b)), .bool true]) ∧ w = w' := by
  go_enter Tryz.func17, Tryz.ntmps17
  go_wp2
  go_ret2
  exact ⟨rfl, rfl⟩

theorem do_sub (a b : Int) (w : World) :
    Calls Tryz.prog 17 #[.int .i64 2, .int .i64 a, .int .i64 b] w fun e w' => e = .returned (.tuple #[.int .i64 (wrap64 (a - b)), .bool true]) ∧ w = w' := by
  go_enter Tryz.func17, Tryz.ntmps17
  go_wp2
  go_ret2
  exact ⟨rfl, rfl⟩

theorem do_mul (a b : Int) (w : World) :
    Calls Tryz.prog 17 #[.int .i64 3, .int .i64 a, .int .i64 b] w fun e w' => e = .returned (.tuple #[.int .i64 (wrap64 (a * b)), .bool true]) ∧ w = w' := by
  go_enter Tryz.func17, Tryz.ntmps17
  go_wp2
  go_ret2
  exact ⟨rfl, rfl⟩

theorem do_and (a b : Int) (w : World) :
    Calls Tryz.prog 17 #[.int .i64 6, .int .i64 a, .int .i64 b] w fun e w' => e = .returned (.tuple #[.int .i64 (bits .and .i64 a b), .bool true]) ∧ w = w' := by
  go_enter Tryz.func17, Tryz.ntmps17
  go_wp2
  go_ret2
  exact ⟨rfl, rfl⟩

theorem do_or (a b : Int) (w : World) :
    Calls Tryz.prog 17 #[.int .i64 7, .int .i64 a, .int .i64 b] w fun e w' => e = .returned (.tuple #[.int .i64 (bits .or .i64 a b), .bool true]) ∧ w = w' := by
  go_enter Tryz.func17, Tryz.ntmps17
  go_wp2
  go_ret2
  exact ⟨rfl, rfl⟩

theorem do_xor (a b : Int) (w : World) :
    Calls Tryz.prog 17 #[.int .i64 8, .int .i64 a, .int .i64 b] w fun e w' => e = .returned (.tuple #[.int .i64 (bits .xor .i64 a b), .bool true]) ∧ w = w' := by
  go_enter Tryz.func17, Tryz.ntmps17
  go_wp2
  go_ret2
  exact ⟨rfl, rfl⟩

theorem do_shl (a b : Int) (w : World) :
    Calls Tryz.prog 17 #[.int .i64 9, .int .i64 a, .int .i64 b] w fun e w' => e = .returned (.tuple #[.int .i64 (wrap64 (a * 2 ^ min (IntKind.u64.wrap (bits BinOp.and IntKind.i64 b 63)).toNat 64)), .bool true]) ∧ w = w' := by
  go_enter Tryz.func17, Tryz.ntmps17
  go_wp2
  go_ret2
  exact ⟨rfl, rfl⟩

theorem do_shr (a b : Int) (w : World) :
    Calls Tryz.prog 17 #[.int .i64 10, .int .i64 a, .int .i64 b] w fun e w' => e = .returned (.tuple #[.int .i64 (a / 2 ^ min (IntKind.u64.wrap (bits BinOp.and IntKind.i64 b 63)).toNat 64), .bool true]) ∧ w = w' := by
  go_enter Tryz.func17, Tryz.ntmps17
  go_wp2
  go_ret2
  exact ⟨rfl, rfl⟩

theorem do_div (a b : Int) (hb : (b == 0) = false) (w : World) :
    Calls Tryz.prog 17 #[.int .i64 4, .int .i64 a, .int .i64 b] w fun e w' => e = .returned (.tuple #[.int .i64 (wrap64 (a.tdiv b)), .bool true]) ∧ w = w' := by
  have hb' : ¬ b = 0 := by simpa using hb
  go_enter Tryz.func17, Tryz.ntmps17
  go_wp2
  go_ret2
  exact ⟨rfl, rfl⟩
theorem do_div_zero (a : Int) (w : World) :
    Calls Tryz.prog 17 #[.int .i64 4, .int .i64 a, .int .i64 0] w fun e w' => e = .returned (.tuple #[.int .i64 0, .bool false]) ∧ w = w' := by
  go_enter Tryz.func17, Tryz.ntmps17
  go_wp2
  go_ret2
  exact ⟨rfl, rfl⟩

theorem do_mod (a b : Int) (hb : (b == 0) = false) (w : World) :
    Calls Tryz.prog 17 #[.int .i64 5, .int .i64 a, .int .i64 b] w fun e w' => e = .returned (.tuple #[.int .i64 (a.tmod b), .bool true]) ∧ w = w' := by
  have hb' : ¬ b = 0 := by simpa using hb
  go_enter Tryz.func17, Tryz.ntmps17
  go_wp2
  go_ret2
  exact ⟨rfl, rfl⟩
theorem do_mod_zero (a : Int) (w : World) :
    Calls Tryz.prog 17 #[.int .i64 5, .int .i64 a, .int .i64 0] w fun e w' => e = .returned (.tuple #[.int .i64 0, .bool false]) ∧ w = w' := by
  go_enter Tryz.func17, Tryz.ntmps17
  go_wp2
  go_ret2
  exact ⟨rfl, rfl⟩

theorem holds_eq (a b : Int) (w : World) :
    Calls Tryz.prog 33 #[.int .i64 11, .int .i64 a, .int .i64 b] w fun e w' => e = .returned (.bool (a == b)) ∧ w = w' := by
  go_enter Tryz.func33, Tryz.ntmps33
  go_wp2
  go_ret
  exact ⟨rfl, rfl⟩

theorem holds_ne (a b : Int) (w : World) :
    Calls Tryz.prog 33 #[.int .i64 12, .int .i64 a, .int .i64 b] w fun e w' => e = .returned (.bool (a != b)) ∧ w = w' := by
  go_enter Tryz.func33, Tryz.ntmps33
  go_wp2
  go_ret
  exact ⟨rfl, rfl⟩

theorem holds_lt (a b : Int) (w : World) :
    Calls Tryz.prog 33 #[.int .i64 13, .int .i64 a, .int .i64 b] w fun e w' => e = .returned (.bool (decide (a < b))) ∧ w = w' := by
  go_enter Tryz.func33, Tryz.ntmps33
  go_wp2
  go_ret
  exact ⟨rfl, rfl⟩

theorem holds_le (a b : Int) (w : World) :
    Calls Tryz.prog 33 #[.int .i64 14, .int .i64 a, .int .i64 b] w fun e w' => e = .returned (.bool (decide (a ≤ b))) ∧ w = w' := by
  go_enter Tryz.func33, Tryz.ntmps33
  go_wp2
  go_ret
  exact ⟨rfl, rfl⟩

theorem holds_below (a b : Int) (w : World) :
    Calls Tryz.prog 33 #[.int .i64 15, .int .i64 a, .int .i64 b] w fun e w' => e = .returned (.bool (decide (IntKind.u64.wrap a < IntKind.u64.wrap b))) ∧ w = w' := by
  go_enter Tryz.func33, Tryz.ntmps33
  go_wp2
  go_ret
  exact ⟨rfl, rfl⟩

theorem boolw_any (b : Bool) (w : World) :
    Calls Tryz.prog 20 #[.bool b] w fun e w' => e = .returned (.int .i64 (b01 b)) ∧ w = w' := by
  cases b <;> (go_enter Tryz.func20, Tryz.ntmps20; go_wp2; go_ret; exact ⟨rfl, rfl⟩)

theorem do_eq (a b : Int) (w : World) :
    Calls Tryz.prog 17 #[.int .i64 11, .int .i64 a, .int .i64 b] w fun e w' => e = .returned (.tuple #[.int .i64 (b01 (a == b)), .bool true]) ∧ w = w' := by
  go_enter Tryz.func17, Tryz.ntmps17
  go_wp2_with (first | (go_at_call 33; refine (holds_eq _ _ _).mono ?_; rintro e w' ⟨rfl, rfl⟩) | (go_at_call 20; refine (boolw_any _ _).mono ?_; rintro e w' ⟨rfl, rfl⟩) | go_in)
  go_ret2
  exact ⟨rfl, rfl⟩

theorem do_ne (a b : Int) (w : World) :
    Calls Tryz.prog 17 #[.int .i64 12, .int .i64 a, .int .i64 b] w fun e w' => e = .returned (.tuple #[.int .i64 (b01 (a != b)), .bool true]) ∧ w = w' := by
  go_enter Tryz.func17, Tryz.ntmps17
  go_wp2_with (first | (go_at_call 33; refine (holds_ne _ _ _).mono ?_; rintro e w' ⟨rfl, rfl⟩) | (go_at_call 20; refine (boolw_any _ _).mono ?_; rintro e w' ⟨rfl, rfl⟩) | go_in)
  go_ret2
  exact ⟨rfl, rfl⟩

theorem do_lt (a b : Int) (w : World) :
    Calls Tryz.prog 17 #[.int .i64 13, .int .i64 a, .int .i64 b] w fun e w' => e = .returned (.tuple #[.int .i64 (b01 (decide (a < b))), .bool true]) ∧ w = w' := by
  go_enter Tryz.func17, Tryz.ntmps17
  go_wp2_with (first | (go_at_call 33; refine (holds_lt _ _ _).mono ?_; rintro e w' ⟨rfl, rfl⟩) | (go_at_call 20; refine (boolw_any _ _).mono ?_; rintro e w' ⟨rfl, rfl⟩) | go_in)
  go_ret2
  exact ⟨rfl, rfl⟩

theorem do_le (a b : Int) (w : World) :
    Calls Tryz.prog 17 #[.int .i64 14, .int .i64 a, .int .i64 b] w fun e w' => e = .returned (.tuple #[.int .i64 (b01 (decide (a ≤ b))), .bool true]) ∧ w = w' := by
  go_enter Tryz.func17, Tryz.ntmps17
  go_wp2_with (first | (go_at_call 33; refine (holds_le _ _ _).mono ?_; rintro e w' ⟨rfl, rfl⟩) | (go_at_call 20; refine (boolw_any _ _).mono ?_; rintro e w' ⟨rfl, rfl⟩) | go_in)
  go_ret2
  exact ⟨rfl, rfl⟩

theorem do_below (a b : Int) (w : World) :
    Calls Tryz.prog 17 #[.int .i64 15, .int .i64 a, .int .i64 b] w fun e w' => e = .returned (.tuple #[.int .i64 (b01 (decide (IntKind.u64.wrap a < IntKind.u64.wrap b))), .bool true]) ∧ w = w' := by
  go_enter Tryz.func17, Tryz.ntmps17
  go_wp2_with (first | (go_at_call 33; refine (holds_below _ _ _).mono ?_; rintro e w' ⟨rfl, rfl⟩) | (go_at_call 20; refine (boolw_any _ _).mono ?_; rintro e w' ⟨rfl, rfl⟩) | go_in)
  go_ret2
  exact ⟨rfl, rfl⟩

theorem do_run (o a b : Int) (h1 : 1 ≤ o) (h2 : o ≤ 15) (hb : o = 4 ∨ o = 5 → b ≠ 0) (w : World) :
    Calls Tryz.prog 17 #[.int .i64 o, .int .i64 a, .int .i64 b] w fun e w' => e = .returned (.tuple #[.int .i64 (doI o a b), .bool true]) ∧ w = w' := by
  have h : o = 1 ∨ o = 2 ∨ o = 3 ∨ o = 4 ∨ o = 5 ∨ o = 6 ∨ o = 7 ∨ o = 8 ∨ o = 9 ∨ o = 10 ∨ o = 11 ∨ o = 12 ∨ o = 13 ∨ o = 14 ∨ o = 15 := by omega
  rcases h with rfl | rfl | rfl | rfl | rfl | rfl | rfl | rfl | rfl | rfl | rfl | rfl | rfl | rfl | rfl
  · exact do_add a b w
  · exact do_sub a b w
  · exact do_mul a b w
  · exact do_div a b (by have := hb (by omega); simpa using this) w
  · exact do_mod a b (by have := hb (by omega); simpa using this) w
  · exact do_and a b w
  · exact do_or a b w
  · exact do_xor a b w
  · exact do_shl a b w
  · exact do_shr a b w
  · exact do_eq a b w
  · exact do_ne a b w
  · exact do_lt a b w
  · exact do_le a b w
  · exact do_below a b w
set_option maxRecDepth 100000 in
theorem divides_run (o : Int) (h1 : 1 ≤ o) (h2 : o ≤ 15) (w : World) : Calls Tryz.prog 18 #[.int .i64 o] w fun e w' => e = .returned (.bool (decide (o = 4 ∨ o = 5))) ∧ w = w' := by
  have h : o = 1 ∨ o = 2 ∨ o = 3 ∨ o = 4 ∨ o = 5 ∨ o = 6 ∨ o = 7 ∨ o = 8 ∨ o = 9 ∨ o = 10 ∨ o = 11 ∨ o = 12 ∨ o = 13 ∨ o = 14 ∨ o = 15 := by omega
  rcases h with rfl | rfl | rfl | rfl | rfl | rfl | rfl | rfl | rfl | rfl | rfl | rfl | rfl | rfl | rfl
  all_goals
    go_enter Tryz.func18, Tryz.ntmps18
    go_wp2_with (fail)
    go_ret
    exact ⟨rfl, rfl⟩
end Go.Proofs.YtaomlahphlemdaaGreatDoor

namespace Go.Proofs.YtaomlahphlemdaaGreatDoor
open Go.ChangeShapes Go.WideShapes Go.ChangeAt Go.RowKit
set_option linter.unusedVariables false

theorem caCells_snoc (l : List (Nat × Nat)) (c : Nat × Nat) : caCells (l ++ [c]) = caCells l ++ caV c := by simp [caCells]
theorem caCells_len : ∀ l : List (Nat × Nat), (caCells l).length = l.length * 2
  | [] => rfl
  | c :: r => by simp only [caCells, List.flatMap_cons, List.length_append, caV, List.length_cons, List.length_nil]; have := caCells_len r; simp only [caCells] at this; omega
/-- The innermost call's two cells. -/
theorem Runs.lastCall {B Rb : Nat} {ov bv : Value} {mg : Nat} {gs : List Nat} {v : RV} {r : Rn} {w : World} (h : Runs B Rb ov bv mg gs v r w) {cs : List (Nat × Nat)} {c : Nat × Nat} (hc : r.calls = cs ++ [c]) : ∃ g cap, v.cv = .slice (some ⟨g, 0, none⟩) (cs.length + 1) cap ∧ cs.length + 1 ≤ cap ∧ cap ≤ maxLen ∧ g < w.heap.size ∧ w.cell? ⟨g, cs.length * 2, none⟩ = some (.int .i64 (c.1 : Int)) ∧ w.cell? ⟨g, cs.length * 2 + 1, none⟩ = some (.int .i64 (c.2 : Int)) := by
  have hlen : r.calls.length = cs.length + 1 := by rw [hc]; simp
  have hown := h.calls
  rw [hlen] at hown
  rcases hown.2 with ⟨_, h0⟩ | ⟨g, cap, cur, h1, hb, hgg, hn, hcm, hcs, htk⟩
  · omega
  · have hx := hown.cells (g := g) (by rw [h1]; rfl)
    have e0 : (caCells r.calls)[cs.length * 2]? = some (.int .i64 (c.1 : Int)) := by
      rw [hc, caCells_snoc, List.getElem?_append_right (by rw [caCells_len]; exact Nat.le_refl _), caCells_len, Nat.sub_self]; rfl
    have e1 : (caCells r.calls)[cs.length * 2 + 1]? = some (.int .i64 (c.2 : Int)) := by
      rw [hc, caCells_snoc, List.getElem?_append_right (by rw [caCells_len]; omega), caCells_len, Nat.add_sub_cancel_left]; rfl
    have x0 := hx _ _ e0
    have x1 := hx _ _ e1
    rw [Go.WideShapes.add_plain, Nat.zero_add] at x0 x1
    exact ⟨g, cap, h1, hn, hcm, (Array.getElem?_eq_some_iff.1 hgg).1, x0, x1⟩
set_option maxHeartbeats 2000000 in
set_option maxRecDepth 100000 in
theorem place_any {B Rb : Nat} {ov bv : Value} {mg : Nat} {gs : List Nat} {v : RV} {r : Rn} {w : World} (h : Runs B Rb ov bv mg gs v r w) {cs : List (Nat × Nat)} {c : Nat × Nat} (hc : r.calls = cs ++ [c]) (hcl : cs.length ≤ 1099511627776) (hc1 : c.1 ≤ 1099511627776) (j : Nat) (hj : j ≤ 1099511627776) :
    Calls Tryz.prog 48 #[.pointer (some ⟨Rb, 0, none⟩), .int .i64 (j : Int)] w fun e w' => e = .returned (.int .i64 ((c.1 + j : Nat) : Int)) ∧ w' = w.drew := by
  obtain ⟨pv, cv, lv⟩ := v
  have hlt := h.lt
  obtain ⟨⟨_, _, _, _, c4, _⟩, hf⟩ := h.open
  obtain ⟨g, cap, h4, hcap, hmx, hgl, x0, x1⟩ := h.lastCall hc
  dsimp only at h4 c4
  subst h4
  obtain ⟨c1, c2⟩ := c
  dsimp only at x0 x1 hc1 ⊢
  generalize cs.length = m at *
  clear h hf hc x1
  have b1 : IntKind.i64.wrap ((c1 : Int) + (j : Int)) = ((c1 + j : Nat) : Int) := by rw [IntWalk.i64_in _ (by omega)]; omega
  have b2 : IntKind.i64.wrap (((m + 1 : Nat) : Int) - 1) = (m : Int) := by rw [IntWalk.i64_in _ (by omega)]; omega
  have b3 : (((m + 1 : Nat) : Int) - 1) = (m : Int) := by omega
  go_enter Tryz.func48, Tryz.ntmps48
  go_wp2_with (fail)
  go_region
  all_goals go_wp2_with (fail)
  all_goals go_ret
  all_goals exact ⟨rfl, rfl⟩
/-- One word of the pile is turned. -/
theorem Runs.pset {B Rb : Nat} {ov bv : Value} {mg : Nat} {gs : List Nat} {cv lv : Value} {g cap : Nat} {r : Rn} {w : World} (h : Runs B Rb ov bv mg gs ⟨.slice (some ⟨g, 0, none⟩) r.pile.length cap, cv, lv⟩ r w) (p : Nat) (hp : p < r.pile.length) (x : Int) :
    Runs B Rb ov bv mg gs ⟨.slice (some ⟨g, 0, none⟩) r.pile.length cap, cv, lv⟩ (r.setPile p x) (w.setCell ⟨g, p, none⟩ (.int .i64 x)) ∧ WentR Rb gs ⟨.slice (some ⟨g, 0, none⟩) r.pile.length cap, cv, lv⟩ ⟨.slice (some ⟨g, 0, none⟩) r.pile.length cap, cv, lv⟩ w (w.setCell ⟨g, p, none⟩ (.int .i64 x)) := by
  obtain ⟨n1, n2, n3, n4, n5, n6, n7⟩ := h.notRb
  have hs : ∀ q, q ≠ g → (w.setCell ⟨g, p, none⟩ (.int .i64 x)).heap[q]? = w.heap[q]? := fun q hq => Below.heap_setCell _ _ _ _ hq
  have hgs : g ∉ gs := h.apart g rfl
  refine ⟨⟨(hs Rb (fun e => n3 g rfl e.symm)).trans h.blk, ?_, ?_, ?_, ?_, ?_, ?_, h.same, ?_, h.nod, h.apart, h.low⟩, ⟨(Turn.refl _ w).put g p _ (.inl (.inr (.inl (.inl rfl)))), fun q hq => .inl hq⟩⟩
  · exact own_keep h.ord (fun q hq => hs q (fun e => by subst e; exact own_ne2 h.pile h.ord (by decide) _ rfl hq))
  · exact own_keep h.bod (fun q hq => hs q (fun e => by subst e; exact own_ne2 h.pile h.bod (by decide) _ rfl hq))
  · rcases h.pile.2 with ⟨h1, _⟩ | ⟨g', cap', cur, h1, hb, hgg, hn, hc, hcs, htk⟩
    · cases h1
    · cases h1
      refine ⟨by simp [Rn.setPile], .inr ⟨g, cap, cur.setIfInBounds p (.int .i64 x), by simp [Rn.setPile], hb, set_block _ _ _ _ _ _ hgg, by simpa [Rn.setPile] using hn, hc, by simpa using hcs, ?_⟩⟩
      simp only [Rn.setPile, List.length_set]
      rw [Array.toList_setIfInBounds, List.take_set, htk, List.map_set]; rfl
  · exact own_keep h.calls (fun q hq => hs q (fun e => by subst e; exact own_ne2 h.pile h.calls (by decide) _ rfl hq))
  · exact own_keep h.leaks (fun q hq => hs q (fun e => by subst e; exact own_ne2 h.pile h.leaks (by decide) _ rfl hq))
  · exact (hs mg (fun e => own_ne h.pile h.mem (by decide) g rfl e.symm)).trans h.mem
  · exact fun i g' ws h1 h2 => (hs g' (fun e => hgs (by rw [← e]; exact List.mem_of_getElem? h1))).trans (h.words i g' ws h1 h2)
set_option maxHeartbeats 4000000 in
set_option maxRecDepth 100000 in
theorem set_run {B Rb : Nat} {ov bv : Value} {mg : Nat} {gs : List Nat} {v : RV} {r : Rn} {w : World} (h : Runs B Rb ov bv mg gs v r w) {cs : List (Nat × Nat)} {c : Nat × Nat} (hc : r.calls = cs ++ [c]) (hcl : cs.length ≤ 1099511627776) (hc1 : c.1 ≤ 1099511627776) (j : Nat) (hj : j ≤ 1099511627776) (hp : c.1 + j < r.pile.length) (hz : r.pile.length ≤ 1099511627776) (x : Int) :
    Calls Tryz.prog 49 #[.pointer (some ⟨Rb, 0, none⟩), .int .i64 (j : Int), .int .i64 x] w (RPost B Rb ov bv mg gs v (r.setPile (c.1 + j) x) (.tuple #[]) w) := by
  obtain ⟨pv, cv, lv⟩ := v
  have HR := Lib.hid h
  have hlt := h.lt
  obtain ⟨⟨_, _, _, c3, _⟩, hf⟩ := h.open
  have hrow : ∃ g cap y, pv = .slice (some ⟨g, 0, none⟩) r.pile.length cap ∧ r.pile.length ≤ cap ∧ g < w.heap.size ∧ w.cell? ⟨g, c.1 + j, none⟩ = some y ∧ w.frozen? ⟨g, c.1 + j, none⟩ = false := by
    rcases h.pile.2 with ⟨_, h0⟩ | ⟨g, cap, cur, h1, hb, hgg, hn, hc, hcs, htk⟩
    · omega
    · have h2 := h.pile.cells (g := g) (by rw [h1]; rfl) (c.1 + j) (iV (r.pile[c.1 + j])) (by rw [List.getElem?_map, List.getElem?_eq_getElem hp]; rfl)
      rw [Go.WideShapes.add_plain, Nat.zero_add] at h2
      exact ⟨g, cap, _, h1, hn, (Array.getElem?_eq_some_iff.1 hgg).1, h2, Lib.frozen_of_heap hgg _⟩
  obtain ⟨g, cap, y, rfl, hcap, hgl, hcell, hfz⟩ := hrow
  have HP := Lib.hid (h.drew.drew.pset (c.1 + j) hp x)
  have HC := Lib.hid hc
  dsimp only at c3
  clear h hf hc
  go_enter Tryz.func49, Tryz.ntmps49
  go_region_with ((go_at_call 48; refine (place_any HR.out.drew HC.out hcl hc1 j hj).mono ?_; rintro e w9 ⟨rfl, rfl⟩))
  all_goals go_wp2_with (fail)
  all_goals go_end0
  all_goals exact ⟨rfl, _, (WentR.refl _ _ _ _).drew.drew.trans HP.out.2, HP.out.1⟩
set_option maxHeartbeats 2000000 in
set_option maxRecDepth 100000 in
theorem step_run {B Rb : Nat} {ov bv : Value} {mg : Nat} {gs : List Nat} {v : RV} {r : Rn} {w : World} (h : Runs B Rb ov bv mg gs v r w) (hs0 : 0 ≤ r.steps) (hs : r.steps ≤ 1099511627776) : Calls Tryz.prog 46 #[.pointer (some ⟨Rb, 0, none⟩)] w (RPost B Rb ov bv mg gs v r.step (.tuple #[]) w) := by
  have HR := Lib.hid h
  have hlt := h.lt
  obtain ⟨⟨_, _, _, _, _, c5, _, _, _, c9, _⟩, hf⟩ := h.open
  have f9 := hf 9
  have b1 : IntKind.i64.wrap (r.steps + 1) = r.steps + 1 := IntWalk.i64_in _ (by omega)
  obtain ⟨h1, t1⟩ := h.drew.cell 9 (.int .i64 (r.steps + 1)) { r with steps := r.steps + 1 } rfl rfl rfl rfl rfl rfl rfl
  have HR1 := Lib.hid h1; have HT1 := Lib.hid t1
  have HE := Lib.hid (show r.step = if r.fuel ≤ r.steps then r.fail else { r with steps := r.steps + 1 } from rfl)
  clear h hf h1 t1
  by_cases hq : r.fuel ≤ r.steps
  · have q1 : decide (r.fuel ≤ r.steps) = true := decide_eq_true hq
    have HE1 := Lib.hid (show r.step = r.fail by rw [HE.out, if_pos hq])
    rw [HE1.out]
    clear hq HE
    generalize r.steps = st at *
    generalize r.fuel = fu at *
    go_enter Tryz.func46, Tryz.ntmps46
    go_wp2_with (fail)
    go_region
    all_goals go_wp2_with (fail)
    all_goals
      refine (fail_run HR.out.drew).mono ?_
      rintro e w2 ⟨rfl, v2, ht2, hr2⟩
      have HT2 := Lib.hid ht2; have HR2 := Lib.hid hr2
      clear ht2 hr2
      go_wp2_with (fail)
      go_end0
      exact ⟨rfl, v2, (WentR.refl _ _ _ _).drew.trans HT2.out, HR2.out⟩
  · have q1 : decide (r.fuel ≤ r.steps) = false := decide_eq_false hq
    have HE1 := Lib.hid (show r.step = { r with steps := r.steps + 1 } by rw [HE.out, if_neg hq])
    rw [HE1.out]
    clear hq HE
    go_enter Tryz.func46, Tryz.ntmps46
    go_wp2_with (fail)
    go_region
    all_goals go_wp2_with (fail)
    all_goals go_end0
    all_goals exact ⟨rfl, _, (WentR.refl _ _ _ _).drew.trans HT1.out, HR1.out⟩
end Go.Proofs.YtaomlahphlemdaaGreatDoor

namespace Go.Proofs.YtaomlahphlemdaaGreatDoor
open Go.ChangeShapes Go.WideShapes Go.ChangeAt Go.RowKit
set_option linter.unusedVariables false

theorem wrap_u64 {i : Int} (h : InI64 i) : IntKind.u64.wrap i = if 0 ≤ i then i else i + 18446744073709551616 := by
  unfold InI64 at h
  have e : IntKind.u64.wrap i = i % 18446744073709551616 := by simp [IntKind.wrap, IntKind.bits, IntKind.signed]
  by_cases hi : 0 ≤ i
  · rw [if_pos hi, e]; omega
  · rw [if_neg hi, e]; omega
theorem inW_eq {i : Int} (h : InI64 i) {n : Nat} (hn : n ≤ 1099511627776) : decide (IntKind.u64.wrap i < (n : Int)) = inW i n := by
  rw [wrap_u64 h]
  unfold inW InI64 at *
  by_cases hi : 0 ≤ i
  · rw [if_pos hi]; simp [hi]
  · rw [if_neg hi]
    have h1 : ¬ (i + 18446744073709551616 < (n : Int)) := by omega
    simp [hi, h1]
set_option maxHeartbeats 2000000 in
set_option maxRecDepth 100000 in
theorem within_run {B Rb : Nat} {ov bv : Value} {mg : Nat} {gs : List Nat} {v : RV} {r : Rn} {w : World} (h : Runs B Rb ov bv mg gs v r w) (hz : r.leaks.length ≤ 1099511627775) (a : Option Addr) (n cap : Nat) (hn : n ≤ 1099511627776) (i : Int) (hi : InI64 i) :
    Calls Tryz.prog 71 #[.pointer (some ⟨Rb, 0, none⟩), .slice a n cap, .int .i64 i] w (RPost B Rb ov bv mg gs v (r.within n i) (.bool (inW i n)) w) := by
  have HR := Lib.hid h
  have HW := Lib.hid (inW_eq hi hn)
  have hu : IntKind.u64.wrap (n : Int) = (n : Int) := by rw [wrap_u64 (by unfold InI64; omega)]; rw [if_pos (by omega)]
  have HE := Lib.hid (show r.within n i = if inW i n then (r.which true).leak 2 i 0 else (r.which false).stop 1 from rfl)
  clear h hi
  go_enter Tryz.func71, Tryz.ntmps71
  go_wp2_with (fail)
  rw [HW.out]
  rcases Bool.eq_false_or_eq_true (inW i n) with hb | hb
  · rw [hb]
    have HE1 := Lib.hid (show r.within n i = (r.which true).leak 2 i 0 by rw [HE.out, hb]; rfl)
    have HB := Lib.hid hb
    refine (which_run HR.out (by omega) true).mono ?_
    rintro e w1 ⟨rfl, v1, ht1, hr1⟩
    have HT1 := Lib.hid ht1; have HR1 := Lib.hid hr1
    clear ht1 hr1 hb
    go_wp2_with (fail)
    refine (leak_any HR1.out (by show (r.leaks ++ [_]).length ≤ _; simp; omega) 2 i 0).mono ?_
    rintro e w2 ⟨rfl, v2, ht2, hr2⟩
    have HT2 := Lib.hid (HT1.out.trans ht2); have HR2 := Lib.hid hr2
    clear ht2 hr2
    go_wp2_with (fail)
    go_ret
    exact ⟨by rw [HB.out]; rfl, v2, HT2.out, by rw [HE1.out]; exact HR2.out⟩
  · rw [hb]
    have HE1 := Lib.hid (show r.within n i = (r.which false).stop 1 by rw [HE.out, hb]; rfl)
    have HB := Lib.hid hb
    refine (which_run HR.out (by omega) false).mono ?_
    rintro e w1 ⟨rfl, v1, ht1, hr1⟩
    have HT1 := Lib.hid ht1; have HR1 := Lib.hid hr1
    clear ht1 hr1 hb
    go_wp2_with (fail)
    refine (trap_run HR1.out 1).mono ?_
    rintro e w2 ⟨rfl, v2, ht2, hr2⟩
    have HT2 := Lib.hid (HT1.out.trans ht2); have HR2 := Lib.hid hr2
    clear ht2 hr2
    go_wp2_with (fail)
    go_ret
    exact ⟨by rw [HB.out]; rfl, v2, HT2.out, by rw [HE1.out]; exact HR2.out⟩
set_option maxHeartbeats 4000000 in
set_option maxRecDepth 100000 in
theorem both_run {B Rb : Nat} {ov bv : Value} {mg : Nat} {gs : List Nat} {v : RV} {r : Rn} {w : World} (h : Runs B Rb ov bv mg gs v r w) (hz : r.leaks.length ≤ 1099511627775) (hp : r.pile.length ≤ 1099511627776) (xs : List Int) (a b : Int) (hab : r.pile = (xs ++ [a]) ++ [b]) (o : Int) (h1 : 1 ≤ o) (h2 : o ≤ 15) (r' : Rn)
    (hr : r' = if o = 4 ∨ o = 5 then (if b = 0 then (({ r with pile := xs } : Rn).which false).stop 2 else ((({ r with pile := xs } : Rn).which true).leak 3 a b).lay (doI o a b)) else ({ r with pile := xs } : Rn).lay (doI o a b)) :
    Calls Tryz.prog 53 #[.pointer (some ⟨Rb, 0, none⟩), .int .i64 o] w (RPost B Rb ov bv mg gs v r' (.tuple #[]) w) := by
  have HR := Lib.hid h; have HAB := Lib.hid hab; have HRR := Lib.hid hr
  have hlen : (xs ++ [a]).length ≤ 1099511627776 := by have := congrArg List.length hab; simp at this ⊢; omega
  have hlen2 : xs.length ≤ 1099511627776 := by simp at hlen; omega
  clear h hab hr
  go_enter Tryz.func53, Tryz.ntmps53
  go_wp2_with (fail)
  refine (pick_any HR.out hp _ b HAB.out).mono ?_
  rintro e w1 ⟨rfl, v1, ht1, hr1⟩
  have HT1 := Lib.hid ht1; have HR1 := Lib.hid hr1
  clear ht1 hr1
  go_wp2_with (fail)
  refine (pick_any HR1.out hlen xs a rfl).mono ?_
  rintro e w2 ⟨rfl, v2, ht2, hr2⟩
  have HT2 := Lib.hid (HT1.out.trans ht2); have HR2 := Lib.hid hr2
  clear ht2 hr2
  go_wp2_with (fail)
  refine (divides_run o h1 h2 _).mono ?_
  rintro e w3 ⟨rfl, rfl⟩
  by_cases hd : o = 4 ∨ o = 5
  · have HD := Lib.hid hd
    rw [decide_eq_true hd]
    by_cases hb : b = 0
    · have q1 : (b != 0) = false := by simpa using hb
      have HE := Lib.hid (show r' = (({ r with pile := xs } : Rn).which false).stop 2 by rw [HRR.out, if_pos hd, if_pos hb])
      clear hb hd
      go_wp2_with (fail)
      refine (which_run HR2.out (by show r.leaks.length ≤ _; omega) false).mono ?_
      rintro e w4 ⟨rfl, v4, ht4, hr4⟩
      have HT4 := Lib.hid (HT2.out.trans ht4); have HR4 := Lib.hid hr4
      clear ht4 hr4
      go_wp2_with (fail)
      refine (trap_run HR4.out 2).mono ?_
      rintro e w5 ⟨rfl, v5, ht5, hr5⟩
      have HT5 := Lib.hid (HT4.out.trans ht5); have HR5 := Lib.hid hr5
      clear ht5 hr5
      go_wp2_with (fail)
      go_end0
      exact ⟨rfl, v5, HT5.out, by rw [HE.out]; exact HR5.out⟩
    · have q1 : (b != 0) = true := by simpa using hb
      have HE := Lib.hid (show r' = ((({ r with pile := xs } : Rn).which true).leak 3 a b).lay (doI o a b) by rw [HRR.out, if_pos hd, if_neg hb])
      have HBN := Lib.hid hb
      clear hb hd
      go_wp2_with (fail)
      refine (which_run HR2.out (by show r.leaks.length ≤ _; omega) true).mono ?_
      rintro e w4 ⟨rfl, v4, ht4, hr4⟩
      have HT4 := Lib.hid (HT2.out.trans ht4); have HR4 := Lib.hid hr4
      clear ht4 hr4
      go_wp2_with (fail)
      refine (leak_any HR4.out (by show (r.leaks ++ [_]).length ≤ _; simp; omega) 3 a b).mono ?_
      rintro e w5 ⟨rfl, v5, ht5, hr5⟩
      have HT5 := Lib.hid (HT4.out.trans ht5); have HR5 := Lib.hid hr5
      clear ht5 hr5
      go_wp2_with (fail)
      refine (do_run o a b h1 h2 (fun _ => HBN.out) _).mono ?_
      rintro e w6 ⟨rfl, rfl⟩
      generalize hy : doI o a b = y at *
      have HY := Lib.hid hy
      clear hy
      go_wp2_with (fail)
      refine (lay_any HR5.out hlen2 y).mono ?_
      rintro e w7 ⟨rfl, v7, ht7, hr7⟩
      have HT7 := Lib.hid (HT5.out.trans ht7); have HR7 := Lib.hid hr7
      clear ht7 hr7
      go_wp2_with (fail)
      go_end0
      exact ⟨rfl, v7, HT7.out, by rw [HE.out]; exact HR7.out⟩
  · have HE := Lib.hid (show r' = ({ r with pile := xs } : Rn).lay (doI o a b) by rw [HRR.out, if_neg hd])
    have HBN := Lib.hid (show o = 4 ∨ o = 5 → b ≠ 0 from fun h => absurd h hd)
    rw [decide_eq_false hd]
    clear hd
    go_wp2_with (fail)
    refine (do_run o a b h1 h2 HBN.out _).mono ?_
    rintro e w6 ⟨rfl, rfl⟩
    generalize hy : doI o a b = y at *
    have HY := Lib.hid hy
    clear hy
    go_wp2_with (fail)
    refine (lay_any HR2.out hlen2 y).mono ?_
    rintro e w7 ⟨rfl, v7, ht7, hr7⟩
    have HT7 := Lib.hid (HT2.out.trans ht7); have HR7 := Lib.hid hr7
    clear ht7 hr7
    go_wp2_with (fail)
    go_end0
    exact ⟨rfl, v7, HT7.out, by rw [HE.out]; exact HR7.out⟩
end Go.Proofs.YtaomlahphlemdaaGreatDoor

namespace Go.Proofs.YtaomlahphlemdaaGreatDoor
open Go.ChangeShapes Go.WideShapes Go.ChangeAt Go.RowKit
set_option linter.unusedVariables false

theorem memCells_len (gs : List Nat) : ∀ (m m' : List (List Int)), m.map List.length = m'.map List.length → memCells gs m = memCells gs m' := by
  induction gs with
  | nil => intro m m' _; rfl
  | cons g r ih =>
    intro m m' h
    cases m with
    | nil => cases m' with | nil => rfl | cons x y => simp at h
    | cons a b => cases m' with
      | nil => simp at h
      | cons x y =>
        simp only [List.map_cons, List.cons.injEq] at h
        have := ih b y h.2
        unfold memCells at this ⊢
        simp only [List.zipWith_cons_cons, h.1, this]
/-- A word of a global is turned. -/
theorem Runs.mset {B Rb : Nat} {ov bv : Value} {mg : Nat} {gs : List Nat} {v : RV} {r : Rn} {w : World} (h : Runs B Rb ov bv mg gs v r w) {j g : Nat} {ws : List Int} (hg : gs[j]? = some g) (hw : r.mem[j]? = some ws) (k : Nat) (x : Int) :
    Runs B Rb ov bv mg gs v (r.setMem j k x) (w.setCell ⟨g, k, none⟩ (.int .i64 x)) ∧ WentR Rb gs v v w (w.setCell ⟨g, k, none⟩ (.int .i64 x)) := by
  obtain ⟨n1, n2, n3, n4, n5, n6, n7⟩ := h.notRb
  have hgg := List.mem_of_getElem? hg
  have hb := h.words j g ws hg hw
  have hs : ∀ q, q ≠ g → (w.setCell ⟨g, k, none⟩ (.int .i64 x)).heap[q]? = w.heap[q]? := fun q hq => Below.heap_setCell _ _ _ _ hq
  have hjl : j < r.mem.length := (List.getElem?_eq_some_iff.1 hw).1
  have hgd : r.mem.getD j [] = ws := by rw [List.getD_eq_getElem?_getD, hw]; rfl
  have hlen : (r.setMem j k x).mem.map List.length = r.mem.map List.length := by
    show (r.mem.set j ((r.mem.getD j []).set k x)).map List.length = _
    rw [List.map_set, hgd, List.length_set]
    have : (r.mem.map List.length)[j]? = some ws.length := by rw [List.getElem?_map, hw]; rfl
    apply List.ext_getElem?
    intro i
    rw [List.getElem?_set]
    split
    · rename_i e
      subst e
      rw [this]; simp [hjl]
    · rfl
  refine ⟨⟨(hs Rb (fun e => n7 g hgg e.symm)).trans h.blk, ?_, ?_, ?_, ?_, ?_, ?_, ?_, ?_, h.nod, h.apart, h.low⟩, ⟨(Turn.refl _ w).put g k _ (.inl (.inr (.inr hgg))), fun q hq => .inl hq⟩⟩
  · exact own_keep h.ord (fun q hq => hs q (own_ne h.ord hb (by decide) q hq))
  · exact own_keep h.bod (fun q hq => hs q (own_ne h.bod hb (by decide) q hq))
  · exact own_keep h.pile (fun q hq => hs q (fun e => h.apart q hq (by rw [e]; exact hgg)))
  · exact own_keep h.calls (fun q hq => hs q (own_ne h.calls hb (by decide) q hq))
  · exact own_keep h.leaks (fun q hq => hs q (own_ne h.leaks hb (by decide) q hq))
  · rw [memCells_len gs _ _ hlen]
    exact (hs mg (fun e => by have h1 := h.mem; rw [e] at h1; exact absurd (elem_of h1 hb) (by decide))).trans h.mem
  · have := congrArg List.length hlen
    simp only [List.length_map] at this
    rw [this]; exact h.same
  · intro i g' ws' h1 h2
    have h2' : (r.mem.set j ((r.mem.getD j []).set k x))[i]? = some ws' := h2
    rw [List.getElem?_set] at h2'
    by_cases hij : j = i
    · subst hij
      rw [hg] at h1
      cases h1
      rw [if_pos rfl, if_pos hjl, hgd] at h2'
      cases h2'
      rw [set_block _ _ _ _ _ _ hb, List.map_set]
      simp [iV]
    · rw [if_neg hij] at h2'
      have hne : g' ≠ g := by
        intro e
        subst e
        have hi1 := (List.getElem?_eq_some_iff.1 h1)
        have hj1 := (List.getElem?_eq_some_iff.1 hg)
        obtain ⟨a1, a2⟩ := hi1
        obtain ⟨b1, b2⟩ := hj1
        exact hij ((List.getElem_inj h.nod).1 (b2.trans a2.symm))
      exact (hs g' hne).trans (h.words i g' ws' h1 h2')
set_option maxHeartbeats 2000000 in
set_option maxRecDepth 100000 in
theorem get_run {B Rb : Nat} {ov bv : Value} {mg : Nat} {gs : List Nat} {v : RV} {r : Rn} {w : World} (h : Runs B Rb ov bv mg gs v r w) (hz : r.leaks.length ≤ 1099511627775) (hp : r.pile.length ≤ 1099511627776) {j g : Nat} {ws : List Int} (hg : gs[j]? = some g) (hw : r.mem[j]? = some ws) (hn : ws.length ≤ 1099511627776) (xs : List Int) (i : Int) (hi : InI64 i) (hx : r.pile = xs ++ [i]) :
    Calls Tryz.prog 51 #[.pointer (some ⟨Rb, 0, none⟩), .slice (some ⟨g, 0, none⟩) ws.length ws.length] w (RPost B Rb ov bv mg gs v (if inW i ws.length then (({ r with pile := xs } : Rn).within ws.length i).lay (ws.getD i.toNat 0) else ({ r with pile := xs } : Rn).within ws.length i) (.tuple #[]) w) := by
  have HR := Lib.hid h; have HX := Lib.hid hx; have HG := Lib.hid hg; have HW := Lib.hid hw
  have hlen : xs.length ≤ 1099511627776 := by have := congrArg List.length hx; simp at this; omega
  obtain ⟨r', hr'⟩ : ∃ r' : Rn, r' = (if inW i ws.length then (({ r with pile := xs } : Rn).within ws.length i).lay (ws.getD i.toNat 0) else ({ r with pile := xs } : Rn).within ws.length i) := ⟨_, rfl⟩
  have HRR := Lib.hid hr'
  rw [← hr']
  clear h hx hg hw hr'
  go_enter Tryz.func51, Tryz.ntmps51
  go_wp2_with (fail)
  refine (pick_any HR.out hp xs i HX.out).mono ?_
  rintro e w1 ⟨rfl, v1, ht1, hr1⟩
  have HT1 := Lib.hid ht1; have HR1 := Lib.hid hr1
  clear ht1 hr1
  go_wp2_with (fail)
  refine (within_run HR1.out (by show r.leaks.length ≤ _; omega) (some ⟨g, 0, none⟩) ws.length ws.length hn i hi).mono ?_
  rintro e w2 ⟨rfl, v2, ht2, hr2⟩
  have HT2 := Lib.hid (HT1.out.trans ht2); have HR2 := Lib.hid hr2
  clear ht2 hr2
  rcases Bool.eq_false_or_eq_true (inW i ws.length) with hb | hb
  · have HE := Lib.hid (show r' = (({ r with pile := xs } : Rn).within ws.length i).lay (ws.getD i.toNat 0) by rw [HRR.out, if_pos hb])
    have HS := Lib.hid (show ({ r with pile := xs } : Rn).within ws.length i = (({ r with pile := xs } : Rn).which true).leak 2 i 0 by unfold Rn.within; rw [if_pos hb])
    rw [hb]
    have hb2 := hb
    unfold inW at hb2
    simp only [Bool.and_eq_true, decide_eq_true_eq] at hb2
    obtain ⟨k, rfl⟩ := Int.eq_ofNat_of_zero_le hb2.1
    have hk : k < ws.length := by omega
    have hblk := HR2.out.words j g ws HG.out (by rw [HS.out]; exact HW.out)
    have hcell : w2.cell? ⟨g, k, none⟩ = some (.int .i64 (ws.getD k 0)) := by
      rw [Lib.cell_of_heap hblk]
      simp [iV, hk, List.getD_eq_getElem?_getD]
    have hgl := (Array.getElem?_eq_some_iff.1 hblk).1
    have HGD := Lib.hid (show ws.getD (Int.toNat (k : Int)) 0 = ws.getD k 0 by simp)
    generalize ws.getD k 0 = y at *
    clear hblk hb hb2
    go_wp2_with (fail)
    refine (lay_any HR2.out (by rw [HS.out]; exact hlen) y).mono ?_
    rintro e w3 ⟨rfl, v3, ht3, hr3⟩
    have HT3 := Lib.hid (HT2.out.trans ht3); have HR3 := Lib.hid hr3
    clear ht3 hr3
    go_wp2_with (fail)
    go_end0
    exact ⟨rfl, v3, HT3.out, by rw [HE.out, HGD.out]; exact HR3.out⟩
  · have HE := Lib.hid (show r' = ({ r with pile := xs } : Rn).within ws.length i by rw [HRR.out, if_neg (by rw [hb]; decide)])
    rw [hb]
    clear hb
    go_wp2_with (fail)
    go_end0
    exact ⟨rfl, v2, HT2.out, by rw [HE.out]; exact HR2.out⟩
set_option maxHeartbeats 2000000 in
set_option maxRecDepth 100000 in
theorem put_run {B Rb : Nat} {ov bv : Value} {mg : Nat} {gs : List Nat} {v : RV} {r : Rn} {w : World} (h : Runs B Rb ov bv mg gs v r w) (hz : r.leaks.length ≤ 1099511627775) (hp : r.pile.length ≤ 1099511627776) {j g : Nat} {ws : List Int} (hg : gs[j]? = some g) (hw : r.mem[j]? = some ws) (hn : ws.length ≤ 1099511627776) (xs : List Int) (i x : Int) (hi : InI64 i) (hx : r.pile = (xs ++ [i]) ++ [x]) :
    Calls Tryz.prog 52 #[.pointer (some ⟨Rb, 0, none⟩), .slice (some ⟨g, 0, none⟩) ws.length ws.length] w (RPost B Rb ov bv mg gs v (if inW i ws.length then (({ r with pile := xs } : Rn).within ws.length i).setMem j i.toNat x else ({ r with pile := xs } : Rn).within ws.length i) (.tuple #[]) w) := by
  have HR := Lib.hid h; have HX := Lib.hid hx; have HG := Lib.hid hg; have HW := Lib.hid hw
  have hlen2 : (xs ++ [i]).length ≤ 1099511627776 := by have := congrArg List.length hx; simp at this ⊢; omega
  obtain ⟨r', hr'⟩ : ∃ r' : Rn, r' = (if inW i ws.length then (({ r with pile := xs } : Rn).within ws.length i).setMem j i.toNat x else ({ r with pile := xs } : Rn).within ws.length i) := ⟨_, rfl⟩
  have HRR := Lib.hid hr'
  rw [← hr']
  clear h hx hg hw hr'
  go_enter Tryz.func52, Tryz.ntmps52
  go_wp2_with (fail)
  refine (pick_any HR.out hp _ x HX.out).mono ?_
  rintro e w1 ⟨rfl, v1, ht1, hr1⟩
  have HT1 := Lib.hid ht1; have HR1 := Lib.hid hr1
  clear ht1 hr1
  go_wp2_with (fail)
  refine (pick_any HR1.out hlen2 xs i rfl).mono ?_
  rintro e w1b ⟨rfl, v1b, ht1, hr1⟩
  have HT1b := Lib.hid (HT1.out.trans ht1); have HR1b := Lib.hid hr1
  clear ht1 hr1
  go_wp2_with (fail)
  refine (within_run HR1b.out (by show r.leaks.length ≤ _; omega) (some ⟨g, 0, none⟩) ws.length ws.length hn i hi).mono ?_
  rintro e w2 ⟨rfl, v2, ht2, hr2⟩
  have HT2 := Lib.hid (HT1b.out.trans ht2); have HR2 := Lib.hid hr2
  clear ht2 hr2
  rcases Bool.eq_false_or_eq_true (inW i ws.length) with hb | hb
  · have HE := Lib.hid (show r' = (({ r with pile := xs } : Rn).within ws.length i).setMem j i.toNat x by rw [HRR.out, if_pos hb])
    have HS := Lib.hid (show ({ r with pile := xs } : Rn).within ws.length i = (({ r with pile := xs } : Rn).which true).leak 2 i 0 by unfold Rn.within; rw [if_pos hb])
    rw [hb]
    have hb2 := hb
    unfold inW at hb2
    simp only [Bool.and_eq_true, decide_eq_true_eq] at hb2
    obtain ⟨k, rfl⟩ := Int.eq_ofNat_of_zero_le hb2.1
    have hk : k < ws.length := by omega
    have hwm : (({ r with pile := xs } : Rn).within ws.length (k : Int)).mem[j]? = some ws := by rw [HS.out]; exact HW.out
    have hblk := HR2.out.words j g ws HG.out hwm
    have hcell : w2.cell? ⟨g, k, none⟩ = some (.int .i64 (ws.getD k 0)) := by
      rw [Lib.cell_of_heap hblk]
      simp [iV, hk, List.getD_eq_getElem?_getD]
    have hfz : w2.frozen? ⟨g, k, none⟩ = false := Lib.frozen_of_heap hblk _
    have hgl := (Array.getElem?_eq_some_iff.1 hblk).1
    have HM := Lib.hid (HR2.out.mset HG.out hwm k x)
    have HGD := Lib.hid (show Int.toNat (k : Int) = k by simp)
    generalize ws.getD k 0 = y at *
    clear hblk hb hb2 hwm
    go_wp2_with (fail)
    go_end0
    exact ⟨rfl, v2, HT2.out.trans HM.out.2, by rw [HE.out, HGD.out]; exact HM.out.1⟩
  · have HE := Lib.hid (show r' = ({ r with pile := xs } : Rn).within ws.length i by rw [HRR.out, if_neg (by rw [hb]; decide)])
    rw [hb]
    clear hb
    go_wp2_with (fail)
    go_end0
    exact ⟨rfl, v2, HT2.out, by rw [HE.out]; exact HR2.out⟩
end Go.Proofs.YtaomlahphlemdaaGreatDoor

namespace Go.Proofs.YtaomlahphlemdaaGreatDoor
open Go.ChangeShapes Go.WideShapes Go.ChangeAt Go.RowKit
set_option linter.unusedVariables false

theorem zeroCells_one (z : Value) (k : Nat) : Builtin.zeroCells #[z] k = (List.replicate k z).toArray := by
  apply Array.ext'
  simp only [Builtin.zeroCells, Array.toList_map, Array.toList_range]
  apply List.ext_getElem
  · simp
  · intro i h1 h2
    have e : i % (#[z] : Array Value).size = 0 := Nat.mod_one i
    simp only [List.getElem_map, List.getElem_range, List.getElem_replicate, e]
    rfl
theorem run_append_zeros {w : World} {B n : Nat} {v : Value} {xs : List Value} (hown : w.ownsRow B 2 1 v n xs) (k : Nat) (ty : TypeId) (hb : B ≤ w.heap.size) (h63 : n + k ≤ 2199023255552) :
    ∃ v' w', (Builtin.append_ #[59, 3] ty #[v, .int .i64 (k : Int)]).run Tryz.prog w = .ok v' w' ∧ w'.ownsRow B 2 1 v' (n + k) (xs ++ List.replicate k (.int .i64 0)) ∧ w.grownBy w' v.ownBlock ∧ (∀ q, v'.ownBlock = some q → v.ownBlock = some q ∨ w.heap.size ≤ q) := by
  obtain ⟨i0, hi, hz0⟩ := Option.map_eq_some_iff.1 infoI64
  obtain ⟨h1, h2, h3⟩ : i0.zero = some (.int .i64 0) ∧ i0.size = 1 ∧ i0.bytes = 8 := by simpa using hz0
  have hw : IntKind.i64.wrap (k : Int) = k := IntWalk.i64_in _ (by omega)
  have hneg : ¬ ((k : Int) < 0) := by omega
  have grown : ∀ (old : Nat), old < n + k → ∀ (row : Option Nat),
      (w.drew.alloc (.cells (xs.toArray ++ Builtin.zeroCells #[.int .i64 0] k ++ Builtin.zeroCells #[.int .i64 0] (grownCap w (n + k) old 2 - (n + k))) 2)).ownsRow B 2 1 (.slice (some ⟨w.heap.size, 0, none⟩) (n + k) (grownCap w (n + k) old 2)) (n + k) (xs ++ List.replicate k (.int .i64 0)) ∧
      w.grownBy (w.drew.alloc (.cells (xs.toArray ++ Builtin.zeroCells #[.int .i64 0] k ++ Builtin.zeroCells #[.int .i64 0] (grownCap w (n + k) old 2 - (n + k))) 2)) row := by
    intro old ho row
    have hge := grownCap_ge w (n + k) old 2
    have hcm : grownCap w (n + k) old 2 ≤ maxLen := grownCap_le_maxLen w (n + k) old 2 (by unfold maxLen; omega)
    have hl := hown.1
    refine ⟨⟨by simp [hl], .inr ⟨w.heap.size, _, _, rfl, hb, heap_alloc_new w.drew _, hge, hcm, ?_, ?_⟩⟩, ⟨rfl, rfl, rfl, by simp, fun q hq _ => Below.heap_alloc w.drew _ q hq⟩⟩
    · simp [zeroCells_one, hl]; omega
    · rw [zeroCells_one, zeroCells_one]
      simp only [Array.toList_append, List.append_assoc]
      rw [← List.append_assoc]
      exact List.take_left' (by simp [hl])
  rcases hown.2 with ⟨rfl, rfl⟩ | ⟨g, cap, cur, rfl, hbg, hg, hnc, hcm, hcs, htk⟩
  · have hx : xs = [] := List.eq_nil_of_length_eq_zero (by simpa using hown.1)
    subst hx
    by_cases hk : k = 0
    · subst hk
      refine ⟨.slice none 0 0, w, ?_, World.ownsRow_nil _ _ _ _, grown_self w _, fun q hq => by cases hq⟩
      have e0 : IntKind.i64.wrap 0 = 0 := by decide
      simp [Builtin.append_, run_underlying Tryz.underlying59, run_underlying Tryz.underlying3, sizeOf, typeInfo, zeroValue, hi, h1, h3, asInt, asIntOf, e0]
    · have hr := Lib.run_append_nil_zeros (P := Tryz.prog) w 59 3 ty 2 i0 (.int .i64 0) .i64 .i64 Tryz.underlying59 Tryz.underlying3 hi h1 k (by omega) (by omega) (by omega) (by rw [h3]; omega)
      have hgr := grown 0 (by omega) (Value.ownBlock (.slice none 0 0))
      simp only [Nat.zero_add, List.nil_append] at hgr ⊢
      have e : ([] : List Value).toArray ++ Builtin.zeroCells #[.int .i64 0] k = Builtin.zeroCells #[.int .i64 0] k := by simp
      rw [e] at hgr
      exact ⟨_, _, hr, hgr.1, hgr.2, fun q hq => by cases hq; exact .inr (Nat.le_refl _)⟩
  · by_cases hk : k = 0
    · subst hk
      have e0 : IntKind.i64.wrap 0 = 0 := by decide
      have hst := run_storeCells_at (P := Tryz.prog) g (n * 1) 2 [] 0 cur w hg (by simp; omega) (by simp)
      simp only [Nat.add_zero, List.length_nil, List.append_nil, List.take_append_drop, Array.toArray_toList] at hst
      rw [setRow_self w g cur 2 (0, 0) hg] at hst
      refine ⟨.slice (some ⟨g, 0, none⟩) n cap, w, ?_, by simpa using hown, grown_self w _, fun q hq => .inl hq⟩
      simp [Builtin.append_, run_underlying Tryz.underlying59, run_underlying Tryz.underlying3, sizeOf, typeInfo, hi, h2, h3, asInt, asIntOf, e0, hnc, Addr.add_lit]
      have hst' : (storeCells ⟨g, n, none⟩ []).run Tryz.prog w = .ok () w := by simpa using hst
      rw [hst']; rfl
    · by_cases hroom : n + k ≤ cap
      · have hfit : n * 1 + 0 + (List.replicate k (Value.int .i64 0)).length ≤ cur.size := by simp; omega
        have hst := run_storeCells_at (P := Tryz.prog) g (n * 1) 2 (List.replicate k (Value.int .i64 0)) 0 cur w hg hfit (by intro u hu; rw [List.eq_of_mem_replicate hu]; rfl)
        simp only [Nat.add_zero] at hst
        refine ⟨.slice (some ⟨g, 0, none⟩) (n + k) cap, w.setRow g (cur.toList.take (n * 1) ++ List.replicate k (Value.int .i64 0) ++ cur.toList.drop (n * 1 + (List.replicate k (Value.int .i64 0)).length)).toArray, ?_, ⟨by simp [hown.1], .inr ⟨g, cap, _, rfl, hbg, setRow_heap w g cur _ 2 _ hg, hroom, hcm, ?_, ?_⟩⟩, ⟨rfl, rfl, rfl, by simp, fun q _ hq => setRow_other w g q _ (fun e => hq (by simp [Value.ownBlock, e]))⟩, fun q hq => .inl hq⟩
        · have hz : (Builtin.zeroCells (Value.int .i64 0).cells k).toList = List.replicate k (.int .i64 0) := by rw [show (Value.int .i64 0).cells = #[Value.int .i64 0] from rfl, zeroCells_one]
          have hb2 : ¬ (281474976710656 < (k : Int) * 8) := by omega
          have hst2 : (storeCells ⟨g, n, none⟩ (List.replicate k (Value.int .i64 0))).run Tryz.prog w = .ok () (w.setRow g (cur.toList.take (n * 1) ++ List.replicate k (Value.int .i64 0) ++ cur.toList.drop (n * 1 + (List.replicate k (Value.int .i64 0)).length)).toArray) := by
            have := hst
            rwa [Nat.mul_one] at this ⊢
          generalize w.setRow g (cur.toList.take (n * 1) ++ List.replicate k (Value.int .i64 0) ++ cur.toList.drop (n * 1 + (List.replicate k (Value.int .i64 0)).length)).toArray = wz at *
          simp [Builtin.append_, run_underlying Tryz.underlying59, run_underlying Tryz.underlying3, sizeOf, typeInfo, zeroValue, hi, h1, h2, h3, asInt, asIntOf, hw, hk, hneg, hb2, hroom, Addr.add_lit, hz, hst2]
        · simp only [List.size_toArray, List.length_append, List.length_take, List.length_drop, Array.length_toList, List.length_replicate]
          omega
        · rw [htk]
          exact List.take_left' (by simp [hown.1])
      · have hold : (Builtin.firstCells i0.size n (.slice (some ⟨g, 0, none⟩) n cap)).run Tryz.prog w.drew = .ok xs.toArray w.drew := by
          rw [h2]
          exact run_firstCells_some (P := Tryz.prog) w.drew 1 n ⟨g, 0, none⟩ n cap xs hown.1 (fun j u hu => hown.cells (g := g) rfl j u hu)
        have hr := Lib.run_append_grow_zeros (P := Tryz.prog) w 59 3 ty 2 i0 (.int .i64 0) .i64 .i64 Tryz.underlying59 Tryz.underlying3 hi h1 (some ⟨g, 0, none⟩) n cap xs hold k (by omega) (by omega) (by omega) (by omega) (by rw [h3]; omega) (growslice_fits (by omega) (by rw [h3]; omega))
        have hgr := grown cap (by omega) (Value.ownBlock (.slice (some ⟨g, 0, none⟩) n cap))
        exact ⟨_, _, hr, hgr.1, hgr.2, fun q hq => by cases hq; exact .inr (Nat.le_refl _)⟩
end Go.Proofs.YtaomlahphlemdaaGreatDoor

namespace Go.Proofs.YtaomlahphlemdaaGreatDoor
open Go.ChangeShapes Go.WideShapes Go.ChangeAt Go.RowKit
set_option linter.unusedVariables false

/-- AT A STEP OF A REGION THAT DRAWS ITS ORDER: an append whose run is known. -/
theorem step_append_run {w : World} {ops : Array Oper} {o : Oper} {a : Act} {K : Act → World → Prop} {Q : Exit → Act → World → Prop} {E : Prop} (hgd : o.guard = none) (s x : Operand) (t tn : TypeId)
    (ho : o.op = .call { callee := .builtin .append, args := #[s, x], argTypes := #[t, tn] }) (vs vx : Value) (hs : a.eval s = vs) (hx : a.eval x = vx)
    (v' : Value) (w' : World) (hr : (Builtin.append_ #[t, tn] o.type #[vs, vx]).run Tryz.prog w = .ok v' w') (h : K (a.put o.dst v') w') :
    if Region.wanted o (yielded ops a.tmps) = true then Oper.wp Tryz.prog o a w K Q else E := by
  have hw : Region.wanted o (yielded ops a.tmps) = true := by simp [Region.wanted, hgd]
  rw [if_pos hw]
  exact Lib.wp_append_run w s x t tn ho vs vx hs hx v' w' hr h
theorem infoCall : (Tryz.prog.info? 117).map (fun i => (i.zero, i.size, i.bytes)) = some (some (.agg #[.int .i64 0, .int .i64 0]), 2, 16) := by kernel_rfl
theorem boCells_at : ∀ (l : List Bo) (i : Nat) (h : i < l.length), (boCells l)[i * 3]? = some (.int .i64 (l[i]).start) ∧ (boCells l)[i * 3 + 1]? = some (.int .i64 (l[i]).params) ∧ (boCells l)[i * 3 + 2]? = some (.int .i64 (l[i]).words)
  | [], i, h => by simp at h
  | b :: r, 0, _ => by simp [boCells, boV]
  | b :: r, i + 1, h => by
    obtain ⟨h1, h2, h3⟩ := boCells_at r i (by simpa using h)
    refine ⟨?_, ?_, ?_⟩
    · rw [show (i + 1) * 3 = i * 3 + 1 + 1 + 1 by omega]; simpa [boCells, boV] using h1
    · rw [show (i + 1) * 3 + 1 = i * 3 + 1 + 1 + 1 + 1 by omega]; simpa [boCells, boV] using h2
    · rw [show (i + 1) * 3 + 2 = i * 3 + 2 + 1 + 1 + 1 by omega]; simpa [boCells, boV] using h3
theorem Runs.bodyAt {B Rb : Nat} {ov bv : Value} {mg : Nat} {gs : List Nat} {v : RV} {r : Rn} {w : World} (h : Runs B Rb ov bv mg gs v r w) (f : Nat) (hf : f < r.bodies.length) : ∃ g cap, bv = .slice (some ⟨g, 0, none⟩) r.bodies.length cap ∧ r.bodies.length ≤ cap ∧ r.bodies.length ≤ maxLen ∧ g < w.heap.size ∧ w.cell? ⟨g, f * 3, none⟩ = some (.int .i64 (r.bodies[f]).start) ∧ w.cell? ⟨g, f * 3 + 1, none⟩ = some (.int .i64 (r.bodies[f]).params) ∧ w.cell? ⟨g, f * 3 + 2, none⟩ = some (.int .i64 (r.bodies[f]).words) := by
  rcases h.bod.2 with ⟨_, h0⟩ | ⟨g, cap, cur, h1, hb, hgg, hn, hcm, hcs, htk⟩
  · omega
  · have hx := h.bod.cells (g := g) (by rw [h1]; rfl)
    obtain ⟨e0, e1, e2⟩ := boCells_at r.bodies f hf
    have x0 := hx _ _ e0; have x1 := hx _ _ e1; have x2 := hx _ _ e2
    rw [Go.WideShapes.add_plain, Nat.zero_add] at x0 x1 x2
    exact ⟨g, cap, h1, hn, Nat.le_trans hn hcm, (Array.getElem?_eq_some_iff.1 hgg).1, x0, x1, x2⟩
set_option maxHeartbeats 2000000 in
set_option maxRecDepth 100000 in
theorem enter_deep {B Rb : Nat} {ov bv : Value} {mg : Nat} {gs : List Nat} {v : RV} {r : Rn} {w : World} (h : Runs B Rb ov bv mg gs v r w) (hd : 2000 ≤ r.calls.length) (hd2 : r.calls.length ≤ 1099511627776) (f : Int) :
    Calls Tryz.prog 28 #[.pointer (some ⟨Rb, 0, none⟩), .int .i64 f] w (RPost B Rb ov bv mg gs v r.fail (.tuple #[]) w) := by
  obtain ⟨pv, cv, lv⟩ := v
  have HR := Lib.hid h
  have hlt := h.lt
  obtain ⟨⟨_, _, _, _, c4, _⟩, hf⟩ := h.open
  obtain ⟨a, cap, h4, _⟩ := own_slice h.calls
  dsimp only at h4 c4
  subst h4
  have q1 : decide ((2000 : Int) ≤ (r.calls.length : Int)) = true := by simp; omega
  have q2 : decide (2000 ≤ r.calls.length) = true := by simpa using hd
  clear h hf
  go_enter Tryz.func28, Tryz.ntmps28
  go_wp2_with (fail)
  refine (fail_run HR.out).mono ?_
  rintro e w2 ⟨rfl, v2, ht2, hr2⟩
  have HT2 := Lib.hid ht2; have HR2 := Lib.hid hr2
  clear ht2 hr2
  go_wp2_with (fail)
  go_end0
  exact ⟨rfl, v2, HT2.out, HR2.out⟩
end Go.Proofs.YtaomlahphlemdaaGreatDoor
