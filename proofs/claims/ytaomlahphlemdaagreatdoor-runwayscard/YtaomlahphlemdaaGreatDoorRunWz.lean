/-
  RunWays: the walk.
-/
import Derived.Test.YtaomlahphlemdaaGreatDoorRunWy
import Derived.IntWalk
import Derived.Test.YtaomlahphlemdaaGreatDoorRegInv
import Derived.Deep.CutBlock
namespace Go.Proofs.YtaomlahphlemdaaGreatDoor
open Go.ChangeShapes Go.WideShapes Go.ChangeAt Go.RowKit
set_option linter.unusedVariables false
open Go.Proofs.YtaomlahphlemdaaGreatDoor.RegInv

set_option maxHeartbeats 4000000 in
set_option maxRecDepth 100000 in
theorem way_any (x : Bool) (w : World) : Calls Tryz.prog 21 #[.bool x] w fun e w' => e = .returned (.agg #[.int .i64 1, .int .i64 (b01 x), .int .i64 0]) ∧ w.grownBy w' none := by
  go_enter Tryz.func21, Tryz.ntmps21
  go_wp2_with (go_at_call 20; refine (boolw_any _ _).mono ?_; rintro e w' ⟨rfl, rfl⟩)
  generalize b01 x = y at *
  have hb : (w.alloc (.cells #[.int .i64 1, .int .i64 y, .int .i64 0] 64)).heap[w.heap.size]? = some (.cells #[.int .i64 1, .int .i64 y, .int .i64 0] 64 (0, 0)) := alloc_at _ _ _ rfl
  have hx : ∀ j, (w.alloc (.cells #[.int .i64 1, .int .i64 y, .int .i64 0] 64)).cell? ⟨w.heap.size, j, none⟩ = (#[.int .i64 1, .int .i64 y, .int .i64 0] : Array Value)[j]? := fun j => Lib.cell_of_heap hb j
  have hg := grown_alloc w (.cells #[.int .i64 1, .int .i64 y, .int .i64 0] 64)
  generalize (w.alloc (.cells #[.int .i64 1, .int .i64 y, .int .i64 0] 64)) = W at *
  refine bodyPost_ret (v := .agg #[.int .i64 1, .int .i64 y, .int .i64 0]) (by simp [results, Tryz.results21, go_sem, hx 0, hx 1, hx 2]) rfl ?_
  exact ⟨rfl, hg⟩
theorem run_sum {p : Pr} (hfit : prFit p = true) (hgood : prGood p = true) (hck : (ckProg p).err = 0) (hN : p.globals.length ≤ 1099511627776) {w : World} {cs : Array Value} (hat : p.At w (· < w.heap.size) cs) (ins : List (List Int)) (iv : Value) (hin : InsAt w (· < w.heap.size) ins iv) (fuel : Int) (k : Nat) (rz : Rn) (hrun : runL p ins fuel k = some rz) (h0 : rz.fault = 0) :
    Calls Tryz.prog 13 #[.agg cs, iv, .int .i64 fuel] w fun e w' => ∃ la lcap mg mn, e = .returned (.tuple #[.agg #[.int .i64 rz.val, .int .i64 rz.trap, .slice la rz.leaks.length lcap, .int .i64 rz.steps, .int .i64 rz.deep, .slice (some ⟨mg, 0, none⟩) mn mn], .int .i64 0]) ∧ w.grownBy w' none ∧ (∀ w'' : World, (∀ q, w.heap.size ≤ q → q < w'.heap.size → w''.heap[q]? = w'.heap[q]?) → LksAt w'' rz.leaks (.slice la rz.leaks.length lcap)) := by
  refine (run_good hfit hgood hck hN hat ins iv hin fuel k rz hrun).mono ?_
  rintro e w' ⟨hg, hor⟩
  rcases hor with ⟨h, _⟩ | ⟨_, rs, rfl, hrs⟩
  · exact absurd h0 h
  obtain ⟨⟨lv, mg, gs, rfl, hlv, hm⟩⟩ := hrs
  have hl : ∀ w'' : World, (∀ q, w.heap.size ≤ q → q < w'.heap.size → w''.heap[q]? = w'.heap[q]?) → LksAt w'' rz.leaks lv := fun w'' hk => lksAt_own (own_keep hlv (fun q hq => hk q (hlv.lt q hq).1 (hlv.lt q hq).2))
  obtain ⟨la, lcap, rfl, _⟩ := own_slice hlv
  exact ⟨la, lcap, mg, gs.length, rfl, hg, hl⟩
theorem ins_three {w : World} {x y z : Int} (g b0 b1 b2 : Nat) (hrow : w.heap[g]? = some (.cells #[.slice (some ⟨b0, 0, none⟩) 1 1, .slice (some ⟨b1, 0, none⟩) 1 1, .slice (some ⟨b2, 0, none⟩) 1 1] 59 (0, 0))) (h0 : w.heap[b0]? = some (.cells #[.int .i64 x] 2 (0, 0))) (h1 : w.heap[b1]? = some (.cells #[.int .i64 y] 2 (0, 0))) (h2 : w.heap[b2]? = some (.cells #[.int .i64 z] 2 (0, 0))) : InsAt w (· < w.heap.size) [[x], [y], [z]] (.slice (some ⟨g, 0, none⟩) 3 3) := by
  refine insAt_rows (ins := [[x], [y], [z]]) [b0, b1, b2] rfl (by simp) hrow (fun i q ws e1 e2 => ?_)
  have hi : i = 0 ∨ i = 1 ∨ i = 2 := by have := (List.getElem?_eq_some_iff.1 e2).1; simp at this; omega
  rcases hi with rfl | rfl | rfl
  · obtain rfl : b0 = q := by simpa using e1
    obtain rfl : [x] = ws := by simpa using e2
    exact ⟨h0, by simp⟩
  · obtain rfl : b1 = q := by simpa using e1
    obtain rfl : [y] = ws := by simpa using e2
    exact ⟨h1, by simp⟩
  · obtain rfl : b2 = q := by simpa using e1
    obtain rfl : [z] = ws := by simpa using e2
    exact ⟨h2, by simp⟩

def Kept (lo hi : Nat) (p : World → Prop) (w : World) : Prop := ∀ w'' : World, (∀ q, lo ≤ q → q < hi → w''.heap[q]? = w.heap[q]?) → p w''
theorem Kept.move {lo hi : Nat} {p : World → Prop} {w w' : World} (h : Kept lo hi p w) (hk : ∀ q, lo ≤ q → q < hi → w'.heap[q]? = w.heap[q]?) : Kept lo hi p w' := fun w'' h2 => h w'' (fun q h3 h4 => (h2 q h3 h4).trans (hk q h3 h4))
theorem lt_heap {w : World} {b : Nat} {o : Obj} (h : w.heap[b]? = some o) : b < w.heap.size := (Array.getElem?_eq_some_iff.1 h).1
structure WyG where
  b0 : Nat
  b1 : Nat
  b2 : Nat
  row : Nat
  rb : Nat
  la : Option Addr
  lc : Nat
  mg : Nat
  mn : Nat
abbrev wyR (rz : Rn) (g : WyG) : Value := .agg #[.int .i64 rz.val, .int .i64 rz.trap, .slice g.la rz.leaks.length g.lc, .int .i64 rz.steps, .int .i64 rz.deep, .slice (some ⟨g.mg, 0, none⟩) g.mn g.mn]
abbrev wyV (pv : Value) (a b : Bool) (n : Int) (rz : Rn) (g : WyG) : List Value :=
  [pv, .bool a, .int .i64 (b01 a), .slice (some ⟨g.b0, 0, none⟩) 1 1, .bool b, .int .i64 (b01 b), .slice (some ⟨g.b1, 0, none⟩) 1 1, .int .i64 n, .slice (some ⟨g.b2, 0, none⟩) 1 1, .slice (some ⟨g.row, 0, none⟩) 3 3,
   .tuple #[wyR rz g, .int .i64 0], .tuple #[wyR rz g, .int .i64 0], wyR rz g, .int .i64 0, .pointer (some ⟨g.rb, 0, none⟩), undef, .int .i64 0]
abbrev wyRow (g : WyG) : Obj := .cells #[.slice (some ⟨g.b0, 0, none⟩) 1 1, .slice (some ⟨g.b1, 0, none⟩) 1 1, .slice (some ⟨g.b2, 0, none⟩) 1 1] 59 (0, 0)
abbrev wyRes (rz : Rn) (g : WyG) : Obj := .cells #[.int .i64 rz.val, .int .i64 rz.trap, .slice g.la rz.leaks.length g.lc, .int .i64 rz.steps, .int .i64 rz.deep, .slice (some ⟨g.mg, 0, none⟩) g.mn g.mn] 33 (0, 0)
structure WInv (WA : World) (x y z : Int) (rz : Rn) (L : Nat → Bool) (g : WyG) (w : World) : Prop where
  grown : WA.grownBy w none
  i0 : L 3 = true → w.heap[g.b0]? = some (.cells #[.int .i64 x] 2 (0, 0))
  i1 : L 6 = true → w.heap[g.b1]? = some (.cells #[.int .i64 y] 2 (0, 0))
  i2 : L 8 = true → w.heap[g.b2]? = some (.cells #[.int .i64 z] 2 (0, 0))
  row : L 9 = true → w.heap[g.row]? = some (wyRow g)
  res : L 10 = true → ∃ lo hi, hi ≤ w.heap.size ∧ (L 14 = true → g.rb < lo ∨ hi ≤ g.rb) ∧ Kept lo hi (fun w => LksAt w rz.leaks (.slice g.la rz.leaks.length g.lc)) w
  rb : L 14 = true → WA.heap.size ≤ g.rb ∧ ∃ u0 u1 u2 u3 u4 u5, w.heap[g.rb]? = some (.cells #[u0, u1, u2, u3, u4, u5] 33 (0, 0))
  fin : L 15 = true → w.heap[g.rb]? = some (wyRes rz g)
def wyKey (i : Nat) : Bool := i == 3 || i == 6 || i == 8 || i == 9 || i == 10 || i == 14 || i == 15
theorem WInv.skip {WA : World} {x y z : Int} {rz : Rn} {L : Nat → Bool} {g : WyG} {w : World} {i : Nat} (h : WInv WA x y z rz L g w) (hi : wyKey i = false) : WInv WA x y z rz (setL L i) g w := by
  simp only [wyKey, Bool.or_eq_false_iff, beq_eq_false_iff_ne, ne_eq] at hi
  obtain ⟨⟨⟨⟨⟨⟨n3, n6⟩, n8⟩, n9⟩, n10⟩, n14⟩, n15⟩ := hi
  have e3 : setL L i 3 = L 3 := setL_ne (by omega)
  have e6 : setL L i 6 = L 6 := setL_ne (by omega)
  have e8 : setL L i 8 = L 8 := setL_ne (by omega)
  have e9 : setL L i 9 = L 9 := setL_ne (by omega)
  have e10 : setL L i 10 = L 10 := setL_ne (by omega)
  have e14 : setL L i 14 = L 14 := setL_ne (by omega)
  have e15 : setL L i 15 = L 15 := setL_ne (by omega)
  exact ⟨h.grown, by rw [e3]; exact h.i0, by rw [e6]; exact h.i1, by rw [e8]; exact h.i2, by rw [e9]; exact h.row, by rw [e10, e14]; exact h.res, by rw [e14]; exact h.rb, by rw [e15]; exact h.fin⟩
theorem WInv.went {WA : World} {x y z : Int} {rz : Rn} {L : Nat → Bool} {g : WyG} {w w' : World} (h : WInv WA x y z rz L g w) (hw : w.grownBy w' none) : WInv WA x y z rz L g w' := by
  have kp : ∀ {q : Nat} {o : Obj}, w.heap[q]? = some o → w'.heap[q]? = some o := fun {q o} hq => (hw.block q (lt_heap hq) (by simp)).trans hq
  refine ⟨grown_trans h.grown hw, fun q => kp (h.i0 q), fun q => kp (h.i1 q), fun q => kp (h.i2 q), fun q => kp (h.row q), fun q => ?_, fun q => ?_, fun q => kp (h.fin q)⟩
  · obtain ⟨lo, hi, h1, h2, h3⟩ := h.res q
    exact ⟨lo, hi, Nat.le_trans h1 hw.size, h2, h3.move (fun q _ h5 => hw.block q (by omega) (by simp))⟩
  · obtain ⟨h1, u0, u1, u2, u3, u4, u5, h2⟩ := h.rb q
    exact ⟨h1, u0, u1, u2, u3, u4, u5, kp h2⟩
/-- The ghost may turn where what speaks of it is not listed. -/
theorem WInv.congr {WA : World} {x y z : Int} {rz : Rn} {L : Nat → Bool} {g g' : WyG} {w : World} (h : WInv WA x y z rz L g w) (h0 : L 3 = true → g'.b0 = g.b0) (h1 : L 6 = true → g'.b1 = g.b1) (h2 : L 8 = true → g'.b2 = g.b2)
    (h3 : L 9 = true → g'.row = g.row ∧ g'.b0 = g.b0 ∧ g'.b1 = g.b1 ∧ g'.b2 = g.b2) (h4 : L 10 = true → g'.la = g.la ∧ g'.lc = g.lc ∧ (L 14 = true → g'.rb = g.rb)) (h5 : L 14 = true → g'.rb = g.rb) (h6 : L 15 = true → g'.rb = g.rb ∧ g'.la = g.la ∧ g'.lc = g.lc ∧ g'.mg = g.mg ∧ g'.mn = g.mn) : WInv WA x y z rz L g' w := by
  refine ⟨h.grown, fun q => by rw [h0 q]; exact h.i0 q, fun q => by rw [h1 q]; exact h.i1 q, fun q => by rw [h2 q]; exact h.i2 q, fun q => ?_, fun q => ?_, fun q => by rw [h5 q]; exact h.rb q, fun q => ?_⟩
  · obtain ⟨q1, q2, q3, q4⟩ := h3 q
    unfold wyRow; rw [q1, q2, q3, q4]; exact h.row q
  · obtain ⟨q1, q2, q3⟩ := h4 q
    obtain ⟨lo, hi, p1, p2, p3⟩ := h.res q
    exact ⟨lo, hi, p1, fun r => by rw [q3 r]; exact p2 r, by rw [q1, q2]; exact p3⟩
  · obtain ⟨q1, q2, q3, q4, q5⟩ := h6 q
    unfold wyRes; rw [q1, q2, q3, q4, q5]; exact h.fin q
theorem WInv.in0 {WA : World} {x y z : Int} {rz : Rn} {L : Nat → Bool} {g : WyG} {w : World} (h : WInv WA x y z rz L g w) (l3 : L 3 = false) (l9 : L 9 = false) : WInv WA x y z rz (setL L 3) { g with b0 := w.heap.size } (w.alloc (.cells #[.int .i64 x] 2)) := by
  have hh := (h.congr (g' := { g with b0 := w.heap.size }) (fun q => by rw [l3] at q; cases q) (fun _ => rfl) (fun _ => rfl) (fun q => by rw [l9] at q; cases q) (fun _ => ⟨rfl, rfl, fun _ => rfl⟩) (fun _ => rfl) (fun _ => ⟨rfl, rfl, rfl, rfl, rfl⟩)).went (grown_alloc w (.cells #[.int .i64 x] 2))
  have e6 : setL L 3 6 = L 6 := setL_ne (by omega)
  have e8 : setL L 3 8 = L 8 := setL_ne (by omega)
  have e9 : setL L 3 9 = L 9 := setL_ne (by omega)
  have e10 : setL L 3 10 = L 10 := setL_ne (by omega)
  have e14 : setL L 3 14 = L 14 := setL_ne (by omega)
  have e15 : setL L 3 15 = L 15 := setL_ne (by omega)
  exact ⟨hh.grown, fun _ => alloc_at _ _ _ rfl, by rw [e6]; exact hh.i1, by rw [e8]; exact hh.i2, by rw [e9]; exact hh.row, by rw [e10, e14]; exact hh.res, by rw [e14]; exact hh.rb, by rw [e15]; exact hh.fin⟩
theorem WInv.in1 {WA : World} {x y z : Int} {rz : Rn} {L : Nat → Bool} {g : WyG} {w : World} (h : WInv WA x y z rz L g w) (l6 : L 6 = false) (l9 : L 9 = false) : WInv WA x y z rz (setL L 6) { g with b1 := w.heap.size } (w.alloc (.cells #[.int .i64 y] 2)) := by
  have hh := (h.congr (g' := { g with b1 := w.heap.size }) (fun _ => rfl) (fun q => by rw [l6] at q; cases q) (fun _ => rfl) (fun q => by rw [l9] at q; cases q) (fun _ => ⟨rfl, rfl, fun _ => rfl⟩) (fun _ => rfl) (fun _ => ⟨rfl, rfl, rfl, rfl, rfl⟩)).went (grown_alloc w (.cells #[.int .i64 y] 2))
  have e3 : setL L 6 3 = L 3 := setL_ne (by omega)
  have e8 : setL L 6 8 = L 8 := setL_ne (by omega)
  have e9 : setL L 6 9 = L 9 := setL_ne (by omega)
  have e10 : setL L 6 10 = L 10 := setL_ne (by omega)
  have e14 : setL L 6 14 = L 14 := setL_ne (by omega)
  have e15 : setL L 6 15 = L 15 := setL_ne (by omega)
  exact ⟨hh.grown, by rw [e3]; exact hh.i0, fun _ => alloc_at _ _ _ rfl, by rw [e8]; exact hh.i2, by rw [e9]; exact hh.row, by rw [e10, e14]; exact hh.res, by rw [e14]; exact hh.rb, by rw [e15]; exact hh.fin⟩
theorem WInv.in2 {WA : World} {x y z : Int} {rz : Rn} {L : Nat → Bool} {g : WyG} {w : World} (h : WInv WA x y z rz L g w) (l8 : L 8 = false) (l9 : L 9 = false) : WInv WA x y z rz (setL L 8) { g with b2 := w.heap.size } (w.alloc (.cells #[.int .i64 z] 2)) := by
  have hh := (h.congr (g' := { g with b2 := w.heap.size }) (fun _ => rfl) (fun _ => rfl) (fun q => by rw [l8] at q; cases q) (fun q => by rw [l9] at q; cases q) (fun _ => ⟨rfl, rfl, fun _ => rfl⟩) (fun _ => rfl) (fun _ => ⟨rfl, rfl, rfl, rfl, rfl⟩)).went (grown_alloc w (.cells #[.int .i64 z] 2))
  have e3 : setL L 8 3 = L 3 := setL_ne (by omega)
  have e6 : setL L 8 6 = L 6 := setL_ne (by omega)
  have e9 : setL L 8 9 = L 9 := setL_ne (by omega)
  have e10 : setL L 8 10 = L 10 := setL_ne (by omega)
  have e14 : setL L 8 14 = L 14 := setL_ne (by omega)
  have e15 : setL L 8 15 = L 15 := setL_ne (by omega)
  exact ⟨hh.grown, by rw [e3]; exact hh.i0, by rw [e6]; exact hh.i1, fun _ => alloc_at _ _ _ rfl, by rw [e9]; exact hh.row, by rw [e10, e14]; exact hh.res, by rw [e14]; exact hh.rb, by rw [e15]; exact hh.fin⟩
theorem WInv.rowd {WA : World} {x y z : Int} {rz : Rn} {L : Nat → Bool} {g : WyG} {w : World} (h : WInv WA x y z rz L g w) (l9 : L 9 = false) : WInv WA x y z rz (setL L 9) { g with row := w.heap.size } (w.alloc (.cells #[.slice (some ⟨g.b0, 0, none⟩) 1 1, .slice (some ⟨g.b1, 0, none⟩) 1 1, .slice (some ⟨g.b2, 0, none⟩) 1 1] 59)) := by
  have hh := (h.congr (g' := { g with row := w.heap.size }) (fun _ => rfl) (fun _ => rfl) (fun _ => rfl) (fun q => by rw [l9] at q; cases q) (fun _ => ⟨rfl, rfl, fun _ => rfl⟩) (fun _ => rfl) (fun _ => ⟨rfl, rfl, rfl, rfl, rfl⟩)).went (grown_alloc w (.cells #[.slice (some ⟨g.b0, 0, none⟩) 1 1, .slice (some ⟨g.b1, 0, none⟩) 1 1, .slice (some ⟨g.b2, 0, none⟩) 1 1] 59))
  have e3 : setL L 9 3 = L 3 := setL_ne (by omega)
  have e6 : setL L 9 6 = L 6 := setL_ne (by omega)
  have e8 : setL L 9 8 = L 8 := setL_ne (by omega)
  have e10 : setL L 9 10 = L 10 := setL_ne (by omega)
  have e14 : setL L 9 14 = L 14 := setL_ne (by omega)
  have e15 : setL L 9 15 = L 15 := setL_ne (by omega)
  exact ⟨hh.grown, by rw [e3]; exact hh.i0, by rw [e6]; exact hh.i1, by rw [e8]; exact hh.i2, fun _ => alloc_at _ _ _ rfl, by rw [e10, e14]; exact hh.res, by rw [e14]; exact hh.rb, by rw [e15]; exact hh.fin⟩
theorem WInv.ran {WA : World} {x y z : Int} {rz : Rn} {L : Nat → Bool} {g : WyG} {w w' : World} (h : WInv WA x y z rz L g w) (l10 : L 10 = false) (l15 : L 15 = false) (la : Option Addr) (lc mg mn : Nat) (hw : w.grownBy w' none) (hl : Kept w.heap.size w'.heap.size (fun w => LksAt w rz.leaks (.slice la rz.leaks.length lc)) w') : WInv WA x y z rz (setL L 10) { g with la := la, lc := lc, mg := mg, mn := mn } w' := by
  have hh := (h.congr (g' := { g with la := la, lc := lc, mg := mg, mn := mn }) (fun _ => rfl) (fun _ => rfl) (fun _ => rfl) (fun _ => ⟨rfl, rfl, rfl, rfl⟩) (fun q => by rw [l10] at q; cases q) (fun _ => rfl) (fun q => by rw [l15] at q; cases q)).went hw
  have e3 : setL L 10 3 = L 3 := setL_ne (by omega)
  have e6 : setL L 10 6 = L 6 := setL_ne (by omega)
  have e8 : setL L 10 8 = L 8 := setL_ne (by omega)
  have e9 : setL L 10 9 = L 9 := setL_ne (by omega)
  have e14 : setL L 10 14 = L 14 := setL_ne (by omega)
  have e15 : setL L 10 15 = L 15 := setL_ne (by omega)
  refine ⟨hh.grown, by rw [e3]; exact hh.i0, by rw [e6]; exact hh.i1, by rw [e8]; exact hh.i2, by rw [e9]; exact hh.row, fun _ => ⟨_, _, Nat.le_refl _, fun q => ?_, hl⟩, by rw [e14]; exact hh.rb, by rw [e15]; exact hh.fin⟩
  rw [e14] at q
  obtain ⟨_, u0, u1, u2, u3, u4, u5, h2⟩ := h.rb q
  exact .inl (lt_heap h2)
theorem WInv.var {WA : World} {x y z : Int} {rz : Rn} {L : Nat → Bool} {g : WyG} {w : World} (h : WInv WA x y z rz L g w) (l14 : L 14 = false) (l15 : L 15 = false) (u0 u1 u2 u3 u4 u5 : Value) : WInv WA x y z rz (setL L 14) { g with rb := w.heap.size } (w.alloc (.cells #[u0, u1, u2, u3, u4, u5] 33)) := by
  have hh := (h.congr (g' := { g with rb := w.heap.size }) (fun _ => rfl) (fun _ => rfl) (fun _ => rfl) (fun _ => ⟨rfl, rfl, rfl, rfl⟩) (fun _ => ⟨rfl, rfl, fun q => by rw [l14] at q; cases q⟩) (fun q => by rw [l14] at q; cases q) (fun q => by rw [l15] at q; cases q)).went (grown_alloc w (.cells #[u0, u1, u2, u3, u4, u5] 33))
  have e3 : setL L 14 3 = L 3 := setL_ne (by omega)
  have e6 : setL L 14 6 = L 6 := setL_ne (by omega)
  have e8 : setL L 14 8 = L 8 := setL_ne (by omega)
  have e9 : setL L 14 9 = L 9 := setL_ne (by omega)
  have e10 : setL L 14 10 = L 10 := setL_ne (by omega)
  have e15 : setL L 14 15 = L 15 := setL_ne (by omega)
  refine ⟨hh.grown, by rw [e3]; exact hh.i0, by rw [e6]; exact hh.i1, by rw [e8]; exact hh.i2, by rw [e9]; exact hh.row, fun q => ?_, fun _ => ⟨h.grown.size, u0, u1, u2, u3, u4, u5, alloc_at _ _ _ rfl⟩, by rw [e15]; exact hh.fin⟩
  rw [e10] at q
  obtain ⟨lo, hi, h1, h2, h3⟩ := h.res q
  exact ⟨lo, hi, by simp; omega, fun _ => .inr h1, h3.move (fun q _ h5 => (grown_alloc w (.cells #[u0, u1, u2, u3, u4, u5] 33)).block q (by omega) (by simp))⟩
theorem WInv.put {WA : World} {x y z : Int} {rz : Rn} {L : Nat → Bool} {g : WyG} {w : World} (h : WInv WA x y z rz L g w) (l14 : L 14 = true) (l10 : L 10 = true) : WInv WA x y z rz (setL L 15) g ((((((w.setCell ⟨g.rb, 0, none⟩ (.int .i64 rz.val)).setCell ⟨g.rb, 1, none⟩ (.int .i64 rz.trap)).setCell ⟨g.rb, 2, none⟩ (.slice g.la rz.leaks.length g.lc)).setCell ⟨g.rb, 3, none⟩ (.int .i64 rz.steps)).setCell ⟨g.rb, 4, none⟩ (.int .i64 rz.deep)).setCell ⟨g.rb, 5, none⟩ (.slice (some ⟨g.mg, 0, none⟩) g.mn g.mn)) := by
  obtain ⟨p1, v0, v1, v2, v3, v4, v5, p2⟩ := h.rb l14
  have hk : ∀ q, q ≠ g.rb → _ := fun q hq => kept6 (w := w) hq (.int .i64 rz.val) (.int .i64 rz.trap) (.slice g.la rz.leaks.length g.lc) (.int .i64 rz.steps) (.int .i64 rz.deep) (.slice (some ⟨g.mg, 0, none⟩) g.mn g.mn)
  have hs := set6 p2 (.int .i64 rz.val) (.int .i64 rz.trap) (.slice g.la rz.leaks.length g.lc) (.int .i64 rz.steps) (.int .i64 rz.deep) (.slice (some ⟨g.mg, 0, none⟩) g.mn g.mn)
  have hg := grown6 p1 h.grown (.int .i64 rz.val) (.int .i64 rz.trap) (.slice g.la rz.leaks.length g.lc) (.int .i64 rz.steps) (.int .i64 rz.deep) (.slice (some ⟨g.mg, 0, none⟩) g.mn g.mn)
  have hz : ((((((w.setCell ⟨g.rb, 0, none⟩ (.int .i64 rz.val)).setCell ⟨g.rb, 1, none⟩ (.int .i64 rz.trap)).setCell ⟨g.rb, 2, none⟩ (.slice g.la rz.leaks.length g.lc)).setCell ⟨g.rb, 3, none⟩ (.int .i64 rz.steps)).setCell ⟨g.rb, 4, none⟩ (.int .i64 rz.deep)).setCell ⟨g.rb, 5, none⟩ (.slice (some ⟨g.mg, 0, none⟩) g.mn g.mn)).heap.size = w.heap.size := by simp
  generalize ((((((w.setCell ⟨g.rb, 0, none⟩ (.int .i64 rz.val)).setCell ⟨g.rb, 1, none⟩ (.int .i64 rz.trap)).setCell ⟨g.rb, 2, none⟩ (.slice g.la rz.leaks.length g.lc)).setCell ⟨g.rb, 3, none⟩ (.int .i64 rz.steps)).setCell ⟨g.rb, 4, none⟩ (.int .i64 rz.deep)).setCell ⟨g.rb, 5, none⟩ (.slice (some ⟨g.mg, 0, none⟩) g.mn g.mn)) = W at *
  have e3 : setL L 15 3 = L 3 := setL_ne (by omega)
  have e6 : setL L 15 6 = L 6 := setL_ne (by omega)
  have e8 : setL L 15 8 = L 8 := setL_ne (by omega)
  have e9 : setL L 15 9 = L 9 := setL_ne (by omega)
  have e10 : setL L 15 10 = L 10 := setL_ne (by omega)
  have e14 : setL L 15 14 = L 14 := setL_ne (by omega)
  have el : ∀ {q : Nat} {cs : Array Value} {t : TypeId}, w.heap[q]? = some (.cells cs t (0, 0)) → t ≠ 33 → q ≠ g.rb := fun {q cs t} hq ht e => by
    subst e; rw [hq] at p2; simp only [Option.some.injEq, Obj.cells.injEq] at p2; exact ht p2.2.1
  refine ⟨hg, fun q => ?_, fun q => ?_, fun q => ?_, fun q => ?_, fun q => ?_, fun _ => ⟨p1, _, _, _, _, _, _, hs⟩, fun _ => hs⟩
  · rw [e3] at q; exact (hk _ (el (h.i0 q) (by decide))).trans (h.i0 q)
  · rw [e6] at q; exact (hk _ (el (h.i1 q) (by decide))).trans (h.i1 q)
  · rw [e8] at q; exact (hk _ (el (h.i2 q) (by decide))).trans (h.i2 q)
  · rw [e9] at q; exact (hk _ (el (h.row q) (by decide))).trans (h.row q)
  · obtain ⟨lo, hi, h1, h2, h3⟩ := h.res l10
    have h4 := h2 l14
    exact ⟨lo, hi, by rw [hz]; exact h1, fun _ => h4, h3.move (fun q q1 q2 => hk q (by omega))⟩
structure JW (wc : World) (l : List Lk) (v : Value) (w : World) : Prop where
  below : Below wc.heap.size wc w
  own : w.ownsRow wc.heap.size 64 3 v l.length (lkCells l)
theorem lkCells_len : ∀ l : List Lk, (lkCells l).length = l.length * 3
  | [] => rfl
  | x :: r => by
    show (lkV x ++ lkCells r).length = _
    rw [List.length_append, lkCells_len r]
    simp [lkV]; omega
theorem JW.lit {wc w' : World} (hg : wc.grownBy w' none) (l : List Lk) (cs : Array Value) (hc : cs.toList = lkCells l) (k : Nat) (hk : l.length = k) (hn : k ≤ 1000) : JW wc l (.slice (some ⟨w'.heap.size, 0, none⟩) k k) (w'.alloc (.cells cs 64)) := by
  subst hk
  have hml : (1000 : Nat) ≤ maxLen := by decide
  refine ⟨below_grown (grown_trans hg (grown_alloc _ _)) (Nat.le_refl _), lkCells_len l, .inr ⟨w'.heap.size, l.length, cs, rfl, hg.size, alloc_at _ _ _ rfl, Nat.le_refl _, by omega, ?_, ?_⟩⟩
  · rw [← lkCells_len, ← hc, Array.length_toList]
  · rw [hc, List.take_of_length_le (by rw [lkCells_len]; exact Nat.le_refl _)]
theorem JW.went {wc w w' : World} {l : List Lk} {v : Value} (h : JW wc l v w) (hg : w.grownBy w' none) : JW wc l v w' :=
  ⟨h.below.grown hg h.below.size (fun k hk => by cases hk), own_keep h.own (fun q hq => hg.block q (h.own.lt q hq).2 (by simp))⟩
theorem JW.app {wc w w' : World} {l : List Lk} {v v' : Value} (h : JW wc l v w) (x : Lk) (hown : w'.ownsRow wc.heap.size 64 3 v' (l.length + 1) (lkCells l ++ [.int .i64 x.kind, .int .i64 x.a, .int .i64 x.b])) (hg : w.grownBy w' v.ownBlock) : JW wc (l ++ [x]) v' w' := by
  refine ⟨h.below.grown hg h.below.size (fun k hk => (h.own.lt k hk).1), ?_⟩
  rw [List.length_append, show lkCells (l ++ [x]) = lkCells l ++ [.int .i64 x.kind, .int .i64 x.a, .int .i64 x.b] by simp [lkCells, lkV]]
  exact hown
theorem JW.own' {wc w : World} {l : List Lk} {v : Value} (h : JW wc l v w) {k : Nat} (hk : l.length = k) : w.ownsRow wc.heap.size 64 3 v k (lkCells l) := by subst hk; exact h.own
theorem JW.app' {wc w w' : World} {l : List Lk} {v v' : Value} (h : JW wc l v w) {k : Nat} (hk : l.length = k) (x : Lk) (hown : w'.ownsRow wc.heap.size 64 3 v' (k + 1) (lkCells l ++ [.int .i64 x.kind, .int .i64 x.a, .int .i64 x.b])) (hg : w.grownBy w' v.ownBlock) : JW wc (l ++ [x]) v' w' := by subst hk; exact h.app x hown hg
theorem lp_len : ∀ k n i, (lp k n i).length ≤ 2 * k
  | 0, _, _ => Nat.zero_le _
  | k + 1, n, i => by
    have := lp_len k n (i + 1)
    rw [lp]
    split
    · split
      · simp; omega
      · simp; omega
    · simp; omega
theorem waysLeaks_len (a b : Bool) (n : Nat) : (waysLeaks a b n).length ≤ 100 := by
  have := lp_len 7 n 0
  simp [waysLeaks]; omega
set_option maxHeartbeats 8000000 in
set_option maxRecDepth 100000 in
theorem ways_core (a b : Bool) (n0 : Int) (n : Nat) (hn : n < 32) (hm : bits .and .i64 n0 31 = (n : Int)) (w : World) (hg : Ground w) :
    Calls Tryz.prog 6 #[.bool a, .bool b, .int .i64 n0] w fun e w' => e = .returned (.bool true) ∧ Below w.heap.size w w' := by
  have HG := Lib.hid hg; have HM := Lib.hid hm
  clear hg hm
  go_enter Tryz.func6, Tryz.ntmps6
  go_wp2_with (fail)
  refine (head6_any _ HG.out).mono ?_
  rintro e w0 ⟨rfl, hg0⟩
  have HG0 := Lib.hid hg0
  clear hg0
  go_wp2_with (fail)
  rw [HM.out]
  go_wp2_with (fail)
  refine (Program_any ⟨waysT.toArray⟩ (by decide) w0 (HG.out.more HG0.out).signs).mono ?_
  intro e w1 hp
  change ParsePost waysT w0 e w1 at hp
  unfold ParsePost at hp
  rw [waysT_err] at hp
  obtain ⟨cs, rfl, hat, hgr⟩ := hp
  obtain ⟨a1, a2, a3, b1, b2, b3, rfl⟩ := hat.cells
  have HAT := Lib.hid hat; have HG1 := Lib.hid (grown_trans HG0.out hgr)
  clear hat hgr
  go_upto_region 7 with (fail)
  have hgA : w1.grownBy ((w1.alloc (.cells #[.slice a1 a2 a3, .slice b1 b2 b3] 25)).alloc (.cells #[.int .i64 0, .int .i64 0, .int .i64 0] 67)) none := grown_trans (grown_alloc _ _) (grown_alloc _ _)
  have hbA : ((w1.alloc (.cells #[.slice a1 a2 a3, .slice b1 b2 b3] 25)).alloc (.cells #[.int .i64 0, .int .i64 0, .int .i64 0] 67)).heap[w1.heap.size]? = some (.cells #[.slice a1 a2 a3, .slice b1 b2 b3] 25 (0, 0)) := alloc_past _ _ _ _ (by simp) (alloc_at _ _ _ rfl)
  have hltA : w1.heap.size < ((w1.alloc (.cells #[.slice a1 a2 a3, .slice b1 b2 b3] 25)).alloc (.cells #[.int .i64 0, .int .i64 0, .int .i64 0] 67)).heap.size := by simp; omega
  have HATA := Lib.hid (HAT.out.keep (S' := (· < ((w1.alloc (.cells #[.slice a1 a2 a3, .slice b1 b2 b3] 25)).alloc (.cells #[.int .i64 0, .int .i64 0, .int .i64 0] 67)).heap.size)) hgA.size (fun q _ hq => Nat.lt_of_lt_of_le hq hgA.size) (fun q _ hq o => World.cell?_of_block (hgA.block q hq (by simp))))
  generalize ((w1.alloc (.cells #[.slice a1 a2 a3, .slice b1 b2 b3] 25)).alloc (.cells #[.int .i64 0, .int .i64 0, .int .i64 0] 67)) = WA at *
  have HGA := Lib.hid (grown_trans HG1.out hgA)
  obtain ⟨⟨p0, p1⟩, _, _⟩ := two hbA
  obtain ⟨rz, hrz, qz1, qz2, qz3, qz4, qz5⟩ := ways_run a b n hn
  have HRUN := Lib.hid (fun (W : World) (hW : WA.grownBy W none) (iv : Value) (hin : InsAt W (· < W.heap.size) [[boolI a], [boolI b], [(n : Int)]] iv) =>
    run_sum waysT_fit waysT_good waysT_ck (by rw [waysT_n]; decide) (HATA.out.keep (S' := (· < W.heap.size)) hW.size (fun q hq _ => Nat.lt_of_lt_of_le hq hW.size) (fun q hq _ o => World.cell?_of_block (hW.block q hq (by simp)))) [[boolI a], [boolI b], [(n : Int)]] iv hin 4000 300 rz hrz qz1)
  have HZ := Lib.hid (show rz.trap = 0 ∧ rz.val = waysVal a b n ∧ rz.leaks = waysLeaks a b n ∧ rz.deep = 1 + boolI a from ⟨qz2, qz3, qz4, qz5⟩)
  have HB0 := Lib.hid (show ∀ x : Bool, b01 x = boolI x from fun x => rfl)
  clear hgA hbA hrz qz1 qz2 qz3 qz4 qz5 HAT HATA
  go_cut [9, 10] from 28 to 41 (fun p e wx => ∃ rb la lcap mg mn, p = .pointer (some ⟨rb, 0, none⟩) ∧ e = .int .i64 0 ∧ w.grownBy wx none ∧ wx.heap[rb]? = some (.cells #[.int .i64 rz.val, .int .i64 rz.trap, .slice la rz.leaks.length lcap, .int .i64 rz.steps, .int .i64 rz.deep, .slice (some ⟨mg, 0, none⟩) mn mn] 33 (0, 0)) ∧ LksAt wx rz.leaks (.slice la rz.leaks.length lcap))
  case first =>
    refine wp_region_by (by kernel_rfl) (wyV (.agg #[.slice a1 a2 a3, .slice b1 b2 b3]) a b n rz) (WInv WA (b01 a) (b01 b) n rz) ⟨0, 0, 0, 0, 0, none, 0, 0, 0⟩ (fun _ => rfl) (by kernel_rfl) ?h0 ?steps ?done
    case h0 => exact ⟨grown_drew (grown_refl _), fun q => by simp at q, fun q => by simp at q, fun q => by simp at q, fun q => by simp at q, fun q => by simp at q, fun q => by simp at q, fun q => by simp at q⟩
    case done =>
      intro g w' hI
      simp only [full, Act.put, List.setIfInBounds_toArray, List.set_cons_zero, List.set_cons_succ]
      go_wp2_with (fail)
      go_meet
      case rel =>
        obtain ⟨lo, hi, _, _, h3⟩ := hI.res rfl
        exact ⟨g.rb, g.la, g.lc, g.mg, g.mn, rfl, rfl, grown_trans HGA.out hI.grown, hI.fin rfl, h3 w' (fun _ _ _ => rfl)⟩
    case steps =>
      refine Steps.cons (k' := 1) ?s0 rfl (Steps.cons (k' := 2) ?s1 rfl (Steps.cons (k' := 3) ?s2 rfl (Steps.cons (k' := 4) ?s3 rfl (Steps.cons (k' := 5) ?s4 rfl (Steps.cons (k' := 6) ?s5 rfl (Steps.cons (k' := 7) ?s6 rfl (Steps.cons (k' := 8) ?s7 rfl (Steps.cons (k' := 9) ?s8 rfl (Steps.cons (k' := 10) ?s9 rfl (Steps.cons (k' := 11) ?s10 rfl (Steps.cons (k' := 12) ?s11 rfl (Steps.cons (k' := 13) ?s12 rfl (Steps.cons (k' := 14) ?s13 rfl (Steps.cons (k' := 15) ?s14 rfl (Steps.cons (k' := 16) ?s15 rfl (Steps.cons (k' := 17) ?s16 rfl (Steps.nil)))))))))))))))))
      case s0 =>
        intro L g w hL hd hcl hI K hK
        simp only [full, Act.put, List.setIfInBounds_toArray, List.set_cons_zero, List.set_cons_succ] at hK ⊢
        have z0 := (World.cell?_of_block (hI.grown.block _ hltA (by simp))).trans p0
        have z1 := (World.cell?_of_block (hI.grown.block _ hltA (by simp))).trans p1
        have HL := Lib.hid hL; have HD := Lib.hid hd; have HC := Lib.hid hcl; have HI := Lib.hid hI; have HK := Lib.hid hK
        clear hL hd hcl hI hK
        go_simp
        exact HK.out _ _ g rfl (fun _ _ => rfl) (HI.out.skip (by decide))
      case s1 =>
        intro L g w hL hd hcl hI K hK
        simp only [full, Act.put, List.setIfInBounds_toArray, List.set_cons_zero, List.set_cons_succ] at hK ⊢
        have HL := Lib.hid hL; have HD := Lib.hid hd; have HC := Lib.hid hcl; have HI := Lib.hid hI; have HK := Lib.hid hK
        clear hL hd hcl hI hK
        go_simp
        exact HK.out _ _ g rfl (fun _ _ => rfl) (HI.out.skip (by decide))
      case s2 =>
        intro L g w hL hd hcl hI K hK
        simp only [full, Act.put, List.setIfInBounds_toArray, List.set_cons_zero, List.set_cons_succ] at hK ⊢
        have HL := Lib.hid hL; have HD := Lib.hid hd; have HC := Lib.hid hcl; have HI := Lib.hid hI; have HK := Lib.hid hK
        clear hL hd hcl hI hK
        go_simp
        refine (boolw_any _ _).mono ?_
        rintro e w' ⟨rfl, rfl⟩
        exact HK.out _ _ g rfl (fun _ _ => rfl) (HI.out.skip (by decide))
      case s3 =>
        intro L g w hL hd hcl hI K hK
        simp only [full, Act.put, List.setIfInBounds_toArray, List.set_cons_zero, List.set_cons_succ] at hK ⊢
        have HL := Lib.hid hL; have HD := Lib.hid hd; have HC := Lib.hid hcl; have HI := Lib.hid hI; have HK := Lib.hid hK
        clear hL hd hcl hI hK
        go_simp
        exact HK.out _ _ { g with b0 := w.heap.size } rfl (set_get 3 HL.out rfl) (HI.out.in0 HL.out (HC.out.not 9 3 (by kernel_rfl) HL.out))
      case s4 =>
        intro L g w hL hd hcl hI K hK
        simp only [full, Act.put, List.setIfInBounds_toArray, List.set_cons_zero, List.set_cons_succ] at hK ⊢
        have HL := Lib.hid hL; have HD := Lib.hid hd; have HC := Lib.hid hcl; have HI := Lib.hid hI; have HK := Lib.hid hK
        clear hL hd hcl hI hK
        go_simp
        exact HK.out _ _ g rfl (fun _ _ => rfl) (HI.out.skip (by decide))
      case s5 =>
        intro L g w hL hd hcl hI K hK
        simp only [full, Act.put, List.setIfInBounds_toArray, List.set_cons_zero, List.set_cons_succ] at hK ⊢
        have HL := Lib.hid hL; have HD := Lib.hid hd; have HC := Lib.hid hcl; have HI := Lib.hid hI; have HK := Lib.hid hK
        clear hL hd hcl hI hK
        go_simp
        refine (boolw_any _ _).mono ?_
        rintro e w' ⟨rfl, rfl⟩
        exact HK.out _ _ g rfl (fun _ _ => rfl) (HI.out.skip (by decide))
      case s6 =>
        intro L g w hL hd hcl hI K hK
        simp only [full, Act.put, List.setIfInBounds_toArray, List.set_cons_zero, List.set_cons_succ] at hK ⊢
        have HL := Lib.hid hL; have HD := Lib.hid hd; have HC := Lib.hid hcl; have HI := Lib.hid hI; have HK := Lib.hid hK
        clear hL hd hcl hI hK
        go_simp
        exact HK.out _ _ { g with b1 := w.heap.size } rfl (set_get 6 HL.out rfl) (HI.out.in1 HL.out (HC.out.not 9 6 (by kernel_rfl) HL.out))
      case s7 =>
        intro L g w hL hd hcl hI K hK
        simp only [full, Act.put, List.setIfInBounds_toArray, List.set_cons_zero, List.set_cons_succ] at hK ⊢
        have HL := Lib.hid hL; have HD := Lib.hid hd; have HC := Lib.hid hcl; have HI := Lib.hid hI; have HK := Lib.hid hK
        clear hL hd hcl hI hK
        go_simp
        exact HK.out _ _ g rfl (fun _ _ => rfl) (HI.out.skip (by decide))
      case s8 =>
        intro L g w hL hd hcl hI K hK
        simp only [full, Act.put, List.setIfInBounds_toArray, List.set_cons_zero, List.set_cons_succ] at hK ⊢
        have HL := Lib.hid hL; have HD := Lib.hid hd; have HC := Lib.hid hcl; have HI := Lib.hid hI; have HK := Lib.hid hK
        clear hL hd hcl hI hK
        go_simp
        exact HK.out _ _ { g with b2 := w.heap.size } rfl (set_get 8 HL.out rfl) (HI.out.in2 HL.out (HC.out.not 9 8 (by kernel_rfl) HL.out))
      case s9 =>
        intro L g w hL hd hcl hI K hK
        simp only [full, Act.put, List.setIfInBounds_toArray, List.set_cons_zero, List.set_cons_succ] at hK ⊢
        have HL := Lib.hid hL; have HD := Lib.hid hd; have HC := Lib.hid hcl; have HI := Lib.hid hI; have HK := Lib.hid hK
        clear hL hd hcl hI hK
        go_simp
        exact HK.out _ _ { g with row := w.heap.size } rfl (set_get 9 HL.out rfl) (HI.out.rowd HL.out)
      case s10 =>
        intro L g w hL hd hcl hI K hK
        simp only [full, Act.put, List.setIfInBounds_toArray, List.set_cons_zero, List.set_cons_succ] at hK ⊢
        have HL := Lib.hid hL; have HD := Lib.hid hd; have HC := Lib.hid hcl; have HI := Lib.hid hI; have HK := Lib.hid hK
        clear hL hd hcl hI hK
        go_simp
        have l10 := HL.out
        have l11 := HC.out.not 11 10 (by kernel_rfl) l10
        have l12 := HC.out.not 12 11 (by kernel_rfl) l11
        have l15 := HC.out.not 15 12 (by kernel_rfl) l12
        have l9 := dep_of HD.out 9 (by kernel_rfl)
        have l3 := HC.out.dep 9 3 (by kernel_rfl) l9
        have l6 := HC.out.dep 9 6 (by kernel_rfl) l9
        have l8 := HC.out.dep 9 8 (by kernel_rfl) l9
        refine (HRUN.out _ HI.out.grown _ (ins_three _ _ _ _ (HI.out.row l9) (HI.out.i0 l3) (HI.out.i1 l6) (HI.out.i2 l8))).mono ?_
        rintro e' w3 ⟨la, lc, mg, mn, rfl, hg3, hlk⟩
        let g' : WyG := { g with la := la, lc := lc, mg := mg, mn := mn }
        exact HK.out _ _ g' rfl (get_trans (get_trans (set_get 10 (v := .tuple #[wyR rz g', .int .i64 0]) l10 rfl) (set_get 11 (v := .tuple #[wyR rz g', .int .i64 0]) l11 rfl)) (set_get 12 (v := wyR rz g') l12 rfl)) (HI.out.ran l10 l15 la lc mg mn hg3 hlk)
      case s11 =>
        intro L g w hL hd hcl hI K hK
        simp only [full, Act.put, List.setIfInBounds_toArray, List.set_cons_zero, List.set_cons_succ] at hK ⊢
        have HL := Lib.hid hL; have HD := Lib.hid hd; have HC := Lib.hid hcl; have HI := Lib.hid hI; have HK := Lib.hid hK
        clear hL hd hcl hI hK
        go_simp
        exact HK.out _ _ g rfl (fun _ _ => rfl) (HI.out.skip (by decide))
      case s12 =>
        intro L g w hL hd hcl hI K hK
        simp only [full, Act.put, List.setIfInBounds_toArray, List.set_cons_zero, List.set_cons_succ] at hK ⊢
        have HL := Lib.hid hL; have HD := Lib.hid hd; have HC := Lib.hid hcl; have HI := Lib.hid hI; have HK := Lib.hid hK
        clear hL hd hcl hI hK
        go_simp
        exact HK.out _ _ g rfl (fun _ _ => rfl) (HI.out.skip (by decide))
      case s13 =>
        intro L g w hL hd hcl hI K hK
        simp only [full, Act.put, List.setIfInBounds_toArray, List.set_cons_zero, List.set_cons_succ] at hK ⊢
        have HL := Lib.hid hL; have HD := Lib.hid hd; have HC := Lib.hid hcl; have HI := Lib.hid hI; have HK := Lib.hid hK
        clear hL hd hcl hI hK
        go_simp
        exact HK.out _ _ g rfl (fun _ _ => rfl) (HI.out.skip (by decide))
      case s14 =>
        intro L g w hL hd hcl hI K hK
        simp only [full, Act.put, List.setIfInBounds_toArray, List.set_cons_zero, List.set_cons_succ] at hK ⊢
        have HL := Lib.hid hL; have HD := Lib.hid hd; have HC := Lib.hid hcl; have HI := Lib.hid hI; have HK := Lib.hid hK
        clear hL hd hcl hI hK
        go_simp
        exact HK.out _ _ { g with rb := w.heap.size } rfl (set_get 14 HL.out rfl) (HI.out.var HL.out (HC.out.not 15 14 (by kernel_rfl) HL.out) _ _ _ _ _ _)
      case s15 =>
        intro L g w hL hd hcl hI K hK
        simp only [full, Act.put, List.setIfInBounds_toArray, List.set_cons_zero, List.set_cons_succ] at hK ⊢
        have hl := dep_of hd 14 (by kernel_rfl)
        have hl2 := hcl.dep 11 10 (by kernel_rfl) (hcl.dep 12 11 (by kernel_rfl) (dep_of hd 12 (by kernel_rfl)))
        obtain ⟨hb0, u0, u1, u2, u3, u4, u5, hb⟩ := hI.rb hl
        obtain ⟨⟨c0, c1, c2, c3, c4, c5⟩, hf⟩ := six hb
        have f0 := hf 0; have f1 := hf 1; have f2 := hf 2; have f3 := hf 3; have f4 := hf 4; have f5 := hf 5
        have hbl := lt_heap hb
        clear hb hb0 hf
        have HLL := Lib.hid hl; have HLM := Lib.hid hl2; clear hl hl2
        have HL := Lib.hid hL; have HD := Lib.hid hd; have HC := Lib.hid hcl; have HI := Lib.hid hI; have HK := Lib.hid hK
        clear hL hd hcl hI hK
        go_simp
        exact HK.out undef _ g rfl (fun _ _ => rfl) (HI.out.put HLL.out HLM.out)
      case s16 =>
        intro L g w hL hd hcl hI K hK
        simp only [full, Act.put, List.setIfInBounds_toArray, List.set_cons_zero, List.set_cons_succ] at hK ⊢
        have HL := Lib.hid hL; have HD := Lib.hid hd; have HC := Lib.hid hcl; have HI := Lib.hid hI; have HK := Lib.hid hK
        clear hL hd hcl hI hK
        go_simp
        exact HK.out _ _ g rfl (fun _ _ => rfl) (HI.out.skip (by decide))
  case rest =>
    obtain ⟨i0, hi, hz0⟩ := Option.map_eq_some_iff.1 infoLeak
    obtain ⟨h1, h2, h3⟩ : i0.zero = some (.agg #[.int .i64 0, .int .i64 0, .int .i64 0]) ∧ i0.size = 3 ∧ i0.bytes = 24 := by simpa using hz0
    have HI := Lib.hid hi; have HZ0 := Lib.hid h1; have HZ1 := Lib.hid h2; have HZ2 := Lib.hid h3
    obtain ⟨rb, la, lcap, mg, mn, rfl, rfl, hgc, hrb, hlk⟩ := hcut
    generalize wc = wB at *
    obtain ⟨qz2, qz3, qz4, qz5⟩ := HZ.out
    obtain ⟨⟨r0, r1, r2, r3, r4, r5⟩, _⟩ := six hrb
    rw [qz2] at r1
    have HGC := Lib.hid hgc; have HRB := Lib.hid hrb; have HLK := Lib.hid hlk
    clear hgc hrb hlk HRUN HGA HB0 qz2 qz3 qz4 qz5 r0 r2 r3 r4 r5 p0 p1 hltA HG1 HG0 HG hi h1 h2 h3 hz0
    go_upto_region 12 with (go_at_call 21; refine (way_any _ _).mono ?_; rintro e w' ⟨rfl, hg'⟩)
    have HJ := Lib.hid (JW.lit hg' [wayL a] #[.int .i64 1, .int .i64 (b01 a), .int .i64 0] rfl 1 rfl (by decide))
    clear hg' r1
    generalize (w'.alloc (.cells #[.int .i64 1, .int .i64 (b01 a), .int .i64 0] 64)) = W1 at *
    generalize w'.heap.size = k1 at *
    clear w'
    go_wp2_with (first | (go_at_call 21; refine (way_any _ _).mono ?_; rintro e w2 ⟨rfl, hg2⟩) | (at_builtin; refine wpList_append_lies _ rfl _ _ 31 rfl wB.heap.size 64 i0 (.agg #[.int .i64 0, .int .i64 0, .int .i64 0]) 3 24 Tryz.underlying31 HI.out HZ0.out HZ1.out HZ2.out rfl (by decide) _ 1 (lkCells [wayL a]) rfl ?hown ⟨w2.heap.size, 0, none⟩ 1 1 [.int .i64 1, .int .i64 (b01 a), .int .i64 0] rfl rfl ?hnews (lk_one _ _ _) (by decide) ?h63 ?hby ?hba (w2.heap.size + 1) ?hH ?_))
    case hown => exact ((HJ.out.went hg2).went (grown_alloc _ _)).own
    all_goals try (case hnews => exact cells_at _ [.int .i64 1, .int .i64 (b01 a), .int .i64 0] _ _ rfl)
    case h63 => decide
    case hby => decide
    case hba => exact ((HJ.out.went hg2).went (grown_alloc _ _)).below.size
    all_goals try (case hH => simp)
    intro b3 cap3 w3 hown3 hgr3 hat3 hlt3
    have HJ3 := Lib.hid (((HJ.out.went hg2).went (grown_alloc _ _)).app (wayL a) hown3 hgr3)
    clear hg2 hown3 hgr3 hat3 hlt3 HJ
    generalize w2.heap.size = k2 at *
    clear w2
    go_upto_if 60 with (fail)
    go_cut [12] from 59 to 65 (fun s12 wx => ∃ g cap, s12 = .slice (some ⟨g, 0, none⟩) 2 cap ∧ JW wB [wayL a, wayL a] s12 wx)
    case first =>
      cases a
      · go_wp2_with (first | (go_at_call 21; refine (way_any false w3).mono ?_; rintro e w4 ⟨rfl, hg4⟩) | (go_at_call 21; refine (way_any false w4).mono ?_; rintro e w5 ⟨rfl, hg5⟩))
        go_meet
        case rel =>
          exact ⟨_, _, rfl, JW.lit (grown_trans (grown_of HJ3.out.below) (grown_trans hg4 hg5)) [wayL false, wayL false] _ rfl 2 rfl (by decide)⟩
      · go_wp2_with (fail)
        go_meet
        case rel => exact ⟨_, _, rfl, HJ3.out⟩
    case rest =>
    generalize wc = wC at *
    obtain ⟨g5, cap5, rfl, hj5⟩ := hcut
    have HJ5 := Lib.hid hj5
    clear hj5 HJ3
    go_upto_region 15 with (fail)
    go_cut [13] from 66 to 69 (fun s13 wx => s13 = .bool (a || b) ∧ JW wB [wayL a, wayL a] (.slice (some ⟨g5, 0, none⟩) 2 cap5) wx)
    case first =>
      cases a
      · go_wp2_with (fail)
        go_meet
        case rel => exact ⟨rfl, HJ5.out⟩
      · go_wp2_with (fail)
        go_meet
        case rel => exact ⟨rfl, HJ5.out⟩
    case rest =>
    generalize wc = wD at *
    obtain ⟨rfl, hj6⟩ := hcut
    have HJ6 := Lib.hid hj6
    clear hj6 HJ5
    go_wp2_with (first | (go_at_call 21; refine (way_any _ _).mono ?_; rintro e w2 ⟨rfl, hg2⟩) | (at_builtin; refine wpList_append_lies _ rfl _ _ 31 rfl wB.heap.size 64 i0 (.agg #[.int .i64 0, .int .i64 0, .int .i64 0]) 3 24 Tryz.underlying31 HI.out HZ0.out HZ1.out HZ2.out rfl (by decide) _ 2 (lkCells [wayL a, wayL a]) rfl ?hown ⟨w2.heap.size, 0, none⟩ 1 1 [.int .i64 1, .int .i64 (b01 (a || b)), .int .i64 0] rfl rfl ?hnews (lk_one _ _ _) (by decide) ?h63 ?hby ?hba (w2.heap.size + 1) ?hH ?_))
    case hown => exact ((HJ6.out.went hg2).went (grown_alloc _ _)).own
    all_goals try (case hnews => exact cells_at _ [.int .i64 1, .int .i64 (b01 (a || b)), .int .i64 0] _ _ rfl)
    case h63 => decide
    case hby => decide
    case hba => exact ((HJ6.out.went hg2).went (grown_alloc _ _)).below.size
    all_goals try (case hH => simp)
    intro b4 cap4 w3 hown3 hgr3 hat3 hlt3
    have HJ7 := Lib.hid (((HJ6.out.went hg2).went (grown_alloc _ _)).app (wayL ((a || b))) hown3 hgr3)
    clear hg2 hown3 hgr3 hat3 hlt3 HJ6
    generalize w2.heap.size = k2 at *
    clear w2
    go_upto_if 76 with (fail)
    go_cut [14] from 76 to 76 (fun s14 wx => s14 = .int .i64 (if a || b then 10 else 20) ∧ JW wB ([wayL a, wayL a] ++ [wayL (a || b)]) (.slice (some ⟨b4, 0, none⟩) 3 cap4) wx)
    case first =>
      generalize (a || b) = ab at *
      cases ab
      · go_wp2_with (fail)
        go_meet
        case rel => exact ⟨rfl, HJ7.out⟩
      · go_wp2_with (fail)
        go_meet
        case rel => exact ⟨rfl, HJ7.out⟩
    case rest =>
    generalize wc = wE at *
    obtain ⟨rfl, hj8⟩ := hcut
    have HJ8 := Lib.hid hj8
    clear hj8 HJ7
    go_upto_block 0 with (fail)
    obtain ⟨D, hD⟩ : ∃ D : Int, D = (if a || b then 10 else 20) := ⟨_, rfl⟩
    rw [← hD]
    have hD1 : 0 ≤ D ∧ D ≤ 20 := by rw [hD]; split <;> omega
    have HL0 := Lib.hid (show waysLeaks a b n = ([wayL a, wayL a] ++ [wayL (a || b)]) ++ lp 7 n 0 from rfl)
    have HV0 := Lib.hid (show waysVal a b n = lv 7 n 0 D (boolI a) by rw [hD]; rfl)
    have HBA := Lib.hid (show b01 a = boolI a from rfl)
    have hb01 : 0 ≤ b01 a ∧ b01 a ≤ 1 := by cases a <;> decide
    have HD1 := Lib.hid hD1; have HB1 := Lib.hid hb01
    clear hD hD1 hb01
    go_cut [12, 15, 16] from 77 to 109 (fun s12 s15 s16 wx => ∃ g cap i, s12 = .slice (some ⟨g, 0, none⟩) (waysLeaks a b n).length cap ∧ s15 = .int .i64 (waysVal a b n) ∧ s16 = .int .i64 i ∧ JW wB (waysLeaks a b n) s12 wx)
    case first =>
      go_wp2_with (fail)
      go_loopw [12, 15, 16] (fun s12 s15 s16 wr => ∃ (i : Nat) (l : List Lk) (g cap : Nat) (z : Value), s12 = .slice (some ⟨g, 0, none⟩) l.length cap ∧ s15 = z ∧ s16 = .int .i64 i ∧ i ≤ 6 ∧ i ≤ n ∧ l.length ≤ 2 * i + 3 ∧ waysLeaks a b n = l ++ lp (7 - i) n i ∧ waysVal a b n = lv (7 - i) n i D (boolI a) ∧ JW wB l s12 wr) (fun _ _ s16 _ => 7 - (intOf s16).toNat)
      case atStart => exact ⟨0, _, _, _, _, rfl, rfl, rfl, by omega, by omega, by simp, HL0.out, HV0.out, HJ8.out⟩
      case round =>
        obtain ⟨i, l, g, cap, z, rfl, rfl, rfl, hi6, hin, hll, hle, hva, hj⟩ := hrel
        have HJ9 := Lib.hid hj
        have HLE := Lib.hid hle; have HVA := Lib.hid hva
        clear hj hle hva HL0 HV0 HJ8
        by_cases hlt : i < n
        · have q0 : decide ((i : Int) < n) = true := by simpa using hlt
          have q0' : decide ((n : Int) ≤ i) = false := by simp; omega
          have k0 : 7 - i = (6 - i) + 1 := by omega
          have HLE1 := Lib.hid (show waysLeaks a b n = l ++ (wayL true :: (if i + 1 = 7 then [wayL true] else wayL false :: lp (6 - i) n (i + 1))) by rw [HLE.out, k0, lp, if_pos hlt])
          have HVA1 := Lib.hid (show waysVal a b n = (if i + 1 = 7 then 100 + D + boolI a else lv (6 - i) n (i + 1) D (boolI a)) by rw [HVA.out, k0, lv, if_pos hlt])
          clear HLE HVA
          go_wp2_with (first | (go_at_call 21; refine (way_any _ _).mono ?_; rintro e w2 ⟨rfl, hg2⟩) | (at_builtin; refine wpList_append_lies _ rfl _ _ 31 rfl wB.heap.size 64 i0 (.agg #[.int .i64 0, .int .i64 0, .int .i64 0]) 3 24 Tryz.underlying31 HI.out HZ0.out HZ1.out HZ2.out rfl (by decide) _ l.length (lkCells l) rfl ?hown ⟨w2.heap.size, 0, none⟩ 1 1 [.int .i64 1, .int .i64 (b01 true), .int .i64 0] rfl rfl ?hnews (lk_one _ _ _) (by decide) ?h63 ?hby ?hba (w2.heap.size + 1) ?hH ?_))
          case hown => exact ((HJ9.out.went hg2).went (grown_alloc _ _)).own' (rfl)
          all_goals try (case hnews => exact cells_at _ [.int .i64 1, .int .i64 (b01 true), .int .i64 0] _ _ rfl)
          case h63 => unfold maxLen; omega
          case hby => omega
          case hba => exact ((HJ9.out.went hg2).went (grown_alloc _ _)).below.size
          all_goals try (case hH => simp)
          intro b5 cap5 w5 hown3 hgr3 hat3 hlt3
          have HJA := Lib.hid (((HJ9.out.went hg2).went (grown_alloc _ _)).app' (rfl) (wayL (true)) hown3 hgr3)
          clear hg2 hown3 hgr3 hat3 hlt3
          generalize w2.heap.size = k2 at *
          clear w2
          by_cases h7 : i + 1 = 7
          · obtain rfl : i = 6 := by omega
            have hle := HLE1.out; have hva := HVA1.out
            rw [if_pos rfl] at hle hva
            have HLE := Lib.hid hle; have HVA := Lib.hid hva
            have HLN := Lib.hid (show (waysLeaks a b n).length = l.length + 1 + 1 by rw [hle]; simp)
            clear hle hva HLE1 HVA1
            go_wp2_with (first | (go_at_call 21; refine (way_any _ _).mono ?_; rintro e w2 ⟨rfl, hg2⟩) | (at_builtin; refine wpList_append_lies _ rfl _ _ 31 rfl wB.heap.size 64 i0 (.agg #[.int .i64 0, .int .i64 0, .int .i64 0]) 3 24 Tryz.underlying31 HI.out HZ0.out HZ1.out HZ2.out rfl (by decide) _ (l.length + 1) (lkCells (l ++ [wayL true])) rfl ?hown ⟨w2.heap.size, 0, none⟩ 1 1 [.int .i64 1, .int .i64 (b01 true), .int .i64 0] rfl rfl ?hnews (lk_one _ _ _) (by decide) ?h63 ?hby ?hba (w2.heap.size + 1) ?hH ?_))
            case hown => exact ((HJA.out.went hg2).went (grown_alloc _ _)).own' (by simp)
            all_goals try (case hnews => exact cells_at _ [.int .i64 1, .int .i64 (b01 true), .int .i64 0] _ _ rfl)
            case h63 => unfold maxLen; omega
            case hby => omega
            case hba => exact ((HJA.out.went hg2).went (grown_alloc _ _)).below.size
            all_goals try (case hH => simp)
            intro b6 cap6 w6 hown3 hgr3 hat3 hlt3
            have HJB := Lib.hid (((HJA.out.went hg2).went (grown_alloc _ _)).app' (by simp) (wayL (true)) hown3 hgr3)
            clear hg2 hown3 hgr3 hat3 hlt3
            generalize w2.heap.size = k3 at *
            clear w2
            have hb1 := HD1.out; have hb2 := HB1.out
            go_wp2_with (go_at_call 20; refine (boolw_any _ _).mono ?_; rintro e w7 ⟨rfl, rfl⟩)
            go_meet
            case rel =>
              refine ⟨b6, cap6, 7, by rw [HLN.out], ?_, rfl, by rw [HLE.out]; simpa using HJB.out⟩
              rw [HVA.out, HBA.out]
          · have q7 : decide (((i : Int) + 1) = 7) = false := by simp; omega
            have q7' : (((i : Int) + 1) == 7) = false := by simp; omega
            have hle := HLE1.out; have hva := HVA1.out
            rw [if_neg h7] at hle hva
            have HLE := Lib.hid hle; have HVA := Lib.hid hva
            clear hle hva HLE1 HVA1
            go_wp2_with (first | (go_at_call 21; refine (way_any _ _).mono ?_; rintro e w2 ⟨rfl, hg2⟩) | (at_builtin; refine wpList_append_lies _ rfl _ _ 31 rfl wB.heap.size 64 i0 (.agg #[.int .i64 0, .int .i64 0, .int .i64 0]) 3 24 Tryz.underlying31 HI.out HZ0.out HZ1.out HZ2.out rfl (by decide) _ (l.length + 1) (lkCells (l ++ [wayL true])) rfl ?hown ⟨w2.heap.size, 0, none⟩ 1 1 [.int .i64 1, .int .i64 (b01 false), .int .i64 0] rfl rfl ?hnews (lk_one _ _ _) (by decide) ?h63 ?hby ?hba (w2.heap.size + 1) ?hH ?_))
            case hown => exact ((HJA.out.went hg2).went (grown_alloc _ _)).own' (by simp)
            all_goals try (case hnews => exact cells_at _ [.int .i64 1, .int .i64 (b01 false), .int .i64 0] _ _ rfl)
            case h63 => unfold maxLen; omega
            case hby => omega
            case hba => exact ((HJA.out.went hg2).went (grown_alloc _ _)).below.size
            all_goals try (case hH => simp)
            intro b6 cap6 w6 hown3 hgr3 hat3 hlt3
            have HJB := Lib.hid (((HJA.out.went hg2).went (grown_alloc _ _)).app' (by simp) (wayL (false)) hown3 hgr3)
            clear hg2 hown3 hgr3 hat3 hlt3
            generalize w2.heap.size = k3 at *
            clear w2
            go_wp2_with (fail)
            go_roundw
            case rel => exact ⟨i + 1, l ++ [wayL true] ++ [wayL false], b6, cap6, _, by simp, rfl, by simp, by omega, by omega, by simp; omega, by rw [HLE.out, show 7 - (i + 1) = 6 - i by omega]; simp, by rw [HVA.out, show 7 - (i + 1) = 6 - i by omega], HJB.out⟩
            case measure => simp [intOf]; omega
        · have q0 : decide ((i : Int) < n) = false := by simpa using hlt
          have q0' : decide ((n : Int) ≤ i) = true := by simp; omega
          have k0 : 7 - i = (6 - i) + 1 := by omega
          have HLE1 := Lib.hid (show waysLeaks a b n = l ++ [wayL false] by rw [HLE.out, k0, lp, if_neg hlt])
          have HVA1 := Lib.hid (show waysVal a b n = (i : Int) + D + boolI a by rw [HVA.out, k0, lv, if_neg hlt])
          have HLN := Lib.hid (show (waysLeaks a b n).length = l.length + 1 by rw [HLE1.out]; simp)
          clear HLE HVA
          go_wp2_with (first | (go_at_call 21; refine (way_any _ _).mono ?_; rintro e w2 ⟨rfl, hg2⟩) | (at_builtin; refine wpList_append_lies _ rfl _ _ 31 rfl wB.heap.size 64 i0 (.agg #[.int .i64 0, .int .i64 0, .int .i64 0]) 3 24 Tryz.underlying31 HI.out HZ0.out HZ1.out HZ2.out rfl (by decide) _ l.length (lkCells l) rfl ?hown ⟨w2.heap.size, 0, none⟩ 1 1 [.int .i64 1, .int .i64 (b01 false), .int .i64 0] rfl rfl ?hnews (lk_one _ _ _) (by decide) ?h63 ?hby ?hba (w2.heap.size + 1) ?hH ?_))
          case hown => exact ((HJ9.out.went hg2).went (grown_alloc _ _)).own' (rfl)
          all_goals try (case hnews => exact cells_at _ [.int .i64 1, .int .i64 (b01 false), .int .i64 0] _ _ rfl)
          case h63 => unfold maxLen; omega
          case hby => omega
          case hba => exact ((HJ9.out.went hg2).went (grown_alloc _ _)).below.size
          all_goals try (case hH => simp)
          intro b5 cap5 w5 hown3 hgr3 hat3 hlt3
          have HJA := Lib.hid (((HJ9.out.went hg2).went (grown_alloc _ _)).app' (rfl) (wayL (false)) hown3 hgr3)
          clear hg2 hown3 hgr3 hat3 hlt3
          generalize w2.heap.size = k2 at *
          clear w2
          have hb1 := HD1.out; have hb2 := HB1.out
          go_wp2_with (go_at_call 20; refine (boolw_any _ _).mono ?_; rintro e w7 ⟨rfl, rfl⟩)
          go_meet
          case rel =>
            refine ⟨b5, cap5, i, by rw [HLN.out], ?_, rfl, by rw [HLE1.out]; exact HJA.out⟩
            rw [HVA1.out, HBA.out]
    case rest =>
    generalize wc = wF at *
    obtain ⟨g9, cap9, i9, rfl, rfl, rfl, hj9⟩ := hcut
    have hrb := HRB.out
    obtain ⟨qz2, qz3, qz4, qz5⟩ := HZ.out
    rw [qz2, qz3, qz4, qz5] at hrb
    have hlb := HLK.out
    rw [qz4] at hlb
    have hrl0 := lt_heap hrb
    have HB9 := Lib.hid hj9.below
    have HLA := Lib.hid (hlb.keep (grown_of hj9.below))
    have HLB := Lib.hid (lksAt_own hj9.own)
    have hrb9 := (hj9.below.block rb hrl0).trans hrb
    have HLL := Lib.hid (waysLeaks_len a b n)
    clear hj9 hrb hlb qz2 qz3 qz4 qz5 HJ8 HL0 HV0 HRB HLK HZ hrl0
    generalize waysVal a b n = VV at *
    generalize waysLeaks a b n = LL at *
    have hrl := lt_heap hrb9
    obtain ⟨⟨r0, r1, r2, r3, r4, r5⟩, _⟩ := six hrb9
    have hba := HBA.out
    rw [← hba] at r4
    have hb1 := HB1.out
    have hw15 : IntKind.i64.wrap (1 + b01 a) = 1 + b01 a := IntWalk.i64_in _ (by omega)
    clear hrb9 r1 r3 r5 HBA HB1 hba
    go_upto_region 29 with (fail)
    refine wp_region_by (G := Unit) (by kernel_rfl) (fun _ => [.pointer (some ⟨rb, 0, none⟩), .int .i64 VV, .int .i64 VV, .bool true, .bool true, .pointer (some ⟨rb, 2, none⟩), .slice la LL.length lcap, .slice (some ⟨g9, 0, none⟩) LL.length cap9, .bool true, .bool true, .bool true, .pointer (some ⟨rb, 4, none⟩), .int .i64 (1 + b01 a), .bool a, .int .i64 (b01 a), .int .i64 (1 + b01 a), .bool true, .bool true, .bool true]) (fun _ _ w' => wF.grownBy w' none) () (fun _ => rfl) (by kernel_rfl) ?h0 ?steps ?done
    case h0 => exact grown_drew (grown_refl _)
    case done =>
      intro g w' hI
      simp only [full, Act.put, List.setIfInBounds_toArray, List.set_cons_zero, List.set_cons_succ]
      go_wp2_with (fail)
      go_ret
      exact ⟨rfl, (below_grown HGC.out (Nat.le_refl _)).trans (Below.trans ⟨HB9.out.os, HB9.out.tape, HB9.out.output, HB9.out.size, fun k hk => HB9.out.block k (Nat.lt_of_lt_of_le hk HGC.out.size)⟩ (below_grown hI (Nat.le_trans HGC.out.size HB9.out.size)))⟩
    case steps =>
      refine Steps.cons (k' := 1) ?s0 rfl (Steps.cons (k' := 2) ?s1 rfl (Steps.cons (k' := 3) ?s2 rfl (Steps.cons (k' := 4) ?s3 rfl (Steps.cons (k' := 5) ?s4 rfl (Steps.cons (k' := 6) ?s5 rfl (Steps.cons (k' := 7) ?s6 rfl (Steps.cons (k' := 8) ?s7 rfl (Steps.cons (k' := 9) ?s8 rfl (Steps.cons (k' := 10) ?s9 rfl (Steps.cons (k' := 11) ?s10 rfl (Steps.cons (k' := 12) ?s11 rfl (Steps.cons (k' := 13) ?s12 rfl (Steps.cons (k' := 14) ?s13 rfl (Steps.cons (k' := 15) ?s14 rfl (Steps.cons (k' := 16) ?s15 rfl (Steps.cons (k' := 17) ?s16 rfl (Steps.cons (k' := 18) ?s17 rfl (Steps.cons (k' := 19) ?s18 rfl (Steps.nil)))))))))))))))))))
      case s0 =>
        intro L g w hL hd hcl hI K hK
        simp only [full, Act.put, List.setIfInBounds_toArray, List.set_cons_zero, List.set_cons_succ] at hK ⊢
        have HL := Lib.hid hL; have HD := Lib.hid hd; have HC := Lib.hid hcl; have HGI := Lib.hid hI; have HK := Lib.hid hK
        clear hL hd hcl hI hK
        go_simp
        exact HK.out _ _ () rfl (fun _ _ => by first | rfl | trivial) HGI.out
      case s1 =>
        intro L g w hL hd hcl hI K hK
        simp only [full, Act.put, List.setIfInBounds_toArray, List.set_cons_zero, List.set_cons_succ] at hK ⊢
        have z := (World.cell?_of_block (hI.block _ hrl (by simp))).trans r0
        have HL := Lib.hid hL; have HD := Lib.hid hd; have HC := Lib.hid hcl; have HGI := Lib.hid hI; have HK := Lib.hid hK
        clear hL hd hcl hI hK
        go_simp
        exact HK.out _ _ () rfl (fun _ _ => by first | rfl | trivial) HGI.out
      case s2 =>
        intro L g w hL hd hcl hI K hK
        simp only [full, Act.put, List.setIfInBounds_toArray, List.set_cons_zero, List.set_cons_succ] at hK ⊢
        have HL := Lib.hid hL; have HD := Lib.hid hd; have HC := Lib.hid hcl; have HGI := Lib.hid hI; have HK := Lib.hid hK
        clear hL hd hcl hI hK
        go_simp
        exact HK.out _ _ () rfl (fun _ _ => by first | rfl | trivial) HGI.out
      case s3 =>
        intro L g w hL hd hcl hI K hK
        simp only [full, Act.put, List.setIfInBounds_toArray, List.set_cons_zero, List.set_cons_succ] at hK ⊢
        have HL := Lib.hid hL; have HD := Lib.hid hd; have HC := Lib.hid hcl; have HGI := Lib.hid hI; have HK := Lib.hid hK
        clear hL hd hcl hI hK
        go_simp
        exact HK.out _ _ () rfl (fun _ _ => by first | rfl | trivial) HGI.out
      case s4 =>
        intro L g w hL hd hcl hI K hK
        simp only [full, Act.put, List.setIfInBounds_toArray, List.set_cons_zero, List.set_cons_succ] at hK ⊢
        have HL := Lib.hid hL; have HD := Lib.hid hd; have HC := Lib.hid hcl; have HGI := Lib.hid hI; have HK := Lib.hid hK
        clear hL hd hcl hI hK
        go_simp
        exact HK.out _ _ () rfl (fun _ _ => by first | rfl | trivial) HGI.out
      case s5 =>
        intro L g w hL hd hcl hI K hK
        simp only [full, Act.put, List.setIfInBounds_toArray, List.set_cons_zero, List.set_cons_succ] at hK ⊢
        have HL := Lib.hid hL; have HD := Lib.hid hd; have HC := Lib.hid hcl; have HGI := Lib.hid hI; have HK := Lib.hid hK
        clear hL hd hcl hI hK
        go_simp
        exact HK.out _ _ () rfl (fun _ _ => by first | rfl | trivial) HGI.out
      case s6 =>
        intro L g w hL hd hcl hI K hK
        simp only [full, Act.put, List.setIfInBounds_toArray, List.set_cons_zero, List.set_cons_succ] at hK ⊢
        have z := (World.cell?_of_block (hI.block _ hrl (by simp))).trans r2
        have HL := Lib.hid hL; have HD := Lib.hid hd; have HC := Lib.hid hcl; have HGI := Lib.hid hI; have HK := Lib.hid hK
        clear hL hd hcl hI hK
        go_simp
        exact HK.out _ _ () rfl (fun _ _ => by first | rfl | trivial) HGI.out
      case s7 =>
        intro L g w hL hd hcl hI K hK
        simp only [full, Act.put, List.setIfInBounds_toArray, List.set_cons_zero, List.set_cons_succ] at hK ⊢
        have HL := Lib.hid hL; have HD := Lib.hid hd; have HC := Lib.hid hcl; have HGI := Lib.hid hI; have HK := Lib.hid hK
        clear hL hd hcl hI hK
        go_simp
        exact HK.out _ _ () rfl (fun _ _ => by first | rfl | trivial) HGI.out
      case s8 =>
        intro L g w hL hd hcl hI K hK
        simp only [full, Act.put, List.setIfInBounds_toArray, List.set_cons_zero, List.set_cons_succ] at hK ⊢
        have HL := Lib.hid hL; have HD := Lib.hid hd; have HC := Lib.hid hcl; have HGI := Lib.hid hI; have HK := Lib.hid hK
        clear hL hd hcl hI hK
        go_simp
        refine (same_yes (HLA.out.keep HGI.out) (HLB.out.keep HGI.out) (Nat.le_trans HLL.out (by decide))).mono ?_
        rintro e w' ⟨rfl, hg'⟩
        exact HK.out _ _ () rfl (fun _ _ => by first | rfl | trivial) (grown_trans HGI.out hg')
      case s9 =>
        intro L g w hL hd hcl hI K hK
        simp only [full, Act.put, List.setIfInBounds_toArray, List.set_cons_zero, List.set_cons_succ] at hK ⊢
        have HL := Lib.hid hL; have HD := Lib.hid hd; have HC := Lib.hid hcl; have HGI := Lib.hid hI; have HK := Lib.hid hK
        clear hL hd hcl hI hK
        go_simp
        exact HK.out _ _ () rfl (fun _ _ => by first | rfl | trivial) HGI.out
      case s10 =>
        intro L g w hL hd hcl hI K hK
        simp only [full, Act.put, List.setIfInBounds_toArray, List.set_cons_zero, List.set_cons_succ] at hK ⊢
        have HL := Lib.hid hL; have HD := Lib.hid hd; have HC := Lib.hid hcl; have HGI := Lib.hid hI; have HK := Lib.hid hK
        clear hL hd hcl hI hK
        go_simp
        exact HK.out _ _ () rfl (fun _ _ => by first | rfl | trivial) HGI.out
      case s11 =>
        intro L g w hL hd hcl hI K hK
        simp only [full, Act.put, List.setIfInBounds_toArray, List.set_cons_zero, List.set_cons_succ] at hK ⊢
        have HL := Lib.hid hL; have HD := Lib.hid hd; have HC := Lib.hid hcl; have HGI := Lib.hid hI; have HK := Lib.hid hK
        clear hL hd hcl hI hK
        go_simp
        exact HK.out _ _ () rfl (fun _ _ => by first | rfl | trivial) HGI.out
      case s12 =>
        intro L g w hL hd hcl hI K hK
        simp only [full, Act.put, List.setIfInBounds_toArray, List.set_cons_zero, List.set_cons_succ] at hK ⊢
        have z := (World.cell?_of_block (hI.block _ hrl (by simp))).trans r4
        have HL := Lib.hid hL; have HD := Lib.hid hd; have HC := Lib.hid hcl; have HGI := Lib.hid hI; have HK := Lib.hid hK
        clear hL hd hcl hI hK
        go_simp
        exact HK.out _ _ () rfl (fun _ _ => by first | rfl | trivial) HGI.out
      case s13 =>
        intro L g w hL hd hcl hI K hK
        simp only [full, Act.put, List.setIfInBounds_toArray, List.set_cons_zero, List.set_cons_succ] at hK ⊢
        have HL := Lib.hid hL; have HD := Lib.hid hd; have HC := Lib.hid hcl; have HGI := Lib.hid hI; have HK := Lib.hid hK
        clear hL hd hcl hI hK
        go_simp
        exact HK.out _ _ () rfl (fun _ _ => by first | rfl | trivial) HGI.out
      case s14 =>
        intro L g w hL hd hcl hI K hK
        simp only [full, Act.put, List.setIfInBounds_toArray, List.set_cons_zero, List.set_cons_succ] at hK ⊢
        have HL := Lib.hid hL; have HD := Lib.hid hd; have HC := Lib.hid hcl; have HGI := Lib.hid hI; have HK := Lib.hid hK
        clear hL hd hcl hI hK
        go_simp
        refine (boolw_any _ _).mono ?_
        rintro e w' ⟨rfl, rfl⟩
        exact HK.out _ _ () rfl (fun _ _ => by first | rfl | trivial) HGI.out
      case s15 =>
        intro L g w hL hd hcl hI K hK
        simp only [full, Act.put, List.setIfInBounds_toArray, List.set_cons_zero, List.set_cons_succ] at hK ⊢
        have HL := Lib.hid hL; have HD := Lib.hid hd; have HC := Lib.hid hcl; have HGI := Lib.hid hI; have HK := Lib.hid hK
        clear hL hd hcl hI hK
        go_simp
        exact HK.out _ _ () rfl (fun _ _ => by first | rfl | trivial) HGI.out
      case s16 =>
        intro L g w hL hd hcl hI K hK
        simp only [full, Act.put, List.setIfInBounds_toArray, List.set_cons_zero, List.set_cons_succ] at hK ⊢
        have HL := Lib.hid hL; have HD := Lib.hid hd; have HC := Lib.hid hcl; have HGI := Lib.hid hI; have HK := Lib.hid hK
        clear hL hd hcl hI hK
        go_simp
        exact HK.out _ _ () rfl (fun _ _ => by first | rfl | trivial) HGI.out
      case s17 =>
        intro L g w hL hd hcl hI K hK
        simp only [full, Act.put, List.setIfInBounds_toArray, List.set_cons_zero, List.set_cons_succ] at hK ⊢
        have HL := Lib.hid hL; have HD := Lib.hid hd; have HC := Lib.hid hcl; have HGI := Lib.hid hI; have HK := Lib.hid hK
        clear hL hd hcl hI hK
        go_simp
        exact HK.out _ _ () rfl (fun _ _ => by first | rfl | trivial) HGI.out
      case s18 =>
        intro L g w hL hd hcl hI K hK
        simp only [full, Act.put, List.setIfInBounds_toArray, List.set_cons_zero, List.set_cons_succ] at hK ⊢
        have HL := Lib.hid hL; have HD := Lib.hid hd; have HC := Lib.hid hcl; have HGI := Lib.hid hI; have HK := Lib.hid hK
        clear hL hd hcl hI hK
        go_simp
        exact HK.out _ _ () rfl (fun _ _ => by first | rfl | trivial) HGI.out
end Go.Proofs.YtaomlahphlemdaaGreatDoor
