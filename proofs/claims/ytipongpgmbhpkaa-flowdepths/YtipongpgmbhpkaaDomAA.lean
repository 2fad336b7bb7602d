/-
  flow: Depths.
-/
import Derived.Test.YtipongpgmbhpkaaDomZ
namespace Go.Proofs.Ytipongpgmbhpkaa
open Go.ChangeShapes Go.WideShapes Go.ChangeAt Go.RowKit
open Go.Proofs.Ytipongpgmbhpkaa.RegInv
set_option linter.unusedVariables false

abbrev DG := (Option Addr × Nat × Option Addr × Nat) × Nat × Nat × Nat
structure DI (n G : Nat) (t : Tr) (w1 : World) (L : Nat → Bool) (g : DG) (w : World) : Prop where
  low : Below w1.heap.size w1 w
  tp : L 5 = true → w.ownsRow w1.heap.size 3 1 (.slice g.1.1 n g.1.2.1) n (t.place.map iV)
  ts : L 5 = true → w.ownsRow w1.heap.size 3 1 (.slice g.1.2.2.1 n g.1.2.2.2) n (t.size.map iV)
  tt : L 5 = true → ∀ q, (Value.slice g.1.1 n g.1.2.1).ownBlock = some q → (Value.slice g.1.2.2.1 n g.1.2.2.2).ownBlock ≠ some q
  o : L 8 = true → w1.heap.size ≤ g.2.1 ∧ w.heap[g.2.1]? = some (.cells (madeCells #[.int .i64 0] n) 3 (0, 0))
  f : L 11 = true → w1.heap.size ≤ g.2.2.1 ∧ w.heap[g.2.2.1]? = some (.cells (madeCells #[.int .i64 0] n) 3 (0, 0))
  of : L 8 = true → L 11 = true → g.2.1 ≠ g.2.2.1
  pno : L 5 = true → L 8 = true → (∀ q, (Value.slice g.1.1 n g.1.2.1).ownBlock = some q → q ≠ g.2.1) ∧ (∀ q, (Value.slice g.1.2.2.1 n g.1.2.2.2).ownBlock = some q → q ≠ g.2.1)
  pnf : L 5 = true → L 11 = true → (∀ q, (Value.slice g.1.1 n g.1.2.1).ownBlock = some q → q ≠ g.2.2.1) ∧ (∀ q, (Value.slice g.1.2.2.1 n g.1.2.2.2).ownBlock = some q → q ≠ g.2.2.1)
  box : L 13 = true → w1.heap.size ≤ g.2.2.2 ∧ w.heap[g.2.2.2]? = some (.cells #[.pointer (some ⟨G, 0, none⟩), .slice g.1.1 n g.1.2.1, .slice g.1.2.2.1 n g.1.2.2.2, .slice (some ⟨g.2.1, 0, none⟩) n n, .slice (some ⟨g.2.2.1, 0, none⟩) n n] 58 (0, 0))
section
variable {n G : Nat} {t : Tr} {w1 w : World} {L : Nat → Bool} {g : DG}
theorem DI.skip (h : DI n G t w1 L g w) {i : Nat} (hi : 5 ≠ i ∧ 8 ≠ i ∧ 11 ≠ i ∧ 13 ≠ i) : DI n G t w1 (setL L i) g w := by
  obtain ⟨h0, h1, h2, h3, h4, h5, h6, h7, h8, h9⟩ := h
  obtain ⟨a, b, c, d⟩ := hi
  refine ⟨h0, ?_, ?_, ?_, ?_, ?_, ?_, ?_, ?_, ?_⟩
  · rw [setL_ne a]; exact h1
  · rw [setL_ne a]; exact h2
  · rw [setL_ne a]; exact h3
  · rw [setL_ne b]; exact h4
  · rw [setL_ne c]; exact h5
  · rw [setL_ne b, setL_ne c]; exact h6
  · rw [setL_ne a, setL_ne b]; exact h7
  · rw [setL_ne a, setL_ne c]; exact h8
  · rw [setL_ne d]; exact h9
theorem own_below {B : Nat} {e : TypeId} {k : Nat} {v : Value} {xs : List Value} {w w' : World} (h : w.ownsRow B e 1 v k xs) (hb : Below w.heap.size w w') : w'.ownsRow B e 1 v k xs := own_keep h (fun q hq => hb.block q (h.lt q hq).2)
theorem DI.m5 {w2 : World} (h : DI n G t w1 L g w) (h13 : L 13 = false) {ta ua : Option Addr} {tc uc : Nat} (hb : Below w.heap.size w w2) (hp : w2.ownsRow w.heap.size 3 1 (.slice ta n tc) n (t.place.map iV)) (hs : w2.ownsRow w.heap.size 3 1 (.slice ua n uc) n (t.size.map iV)) (hn : ∀ q, (Value.slice ta n tc).ownBlock = some q → (Value.slice ua n uc).ownBlock ≠ some q) : DI n G t w1 (setL L 5) ((ta, tc, ua, uc), g.2) w2 := by
  refine ⟨h.low.trans (hb.mono h.low.size), fun _ => own_mono hp h.low.size, fun _ => own_mono hs h.low.size, fun _ => hn, fun a => ?_, fun a => ?_, fun a b => ?_, fun _ a => ?_, fun _ a => ?_, fun a => ?_⟩
  · rw [setL_ne (by decide)] at a; exact old_below (h.o a) hb
  · rw [setL_ne (by decide)] at a; exact old_below (h.f a) hb
  · rw [setL_ne (by decide)] at a b; exact h.of a b
  · rw [setL_ne (by decide)] at a
    have h1 := lt_heap (h.o a).2
    exact ⟨fun q hq => by have := (hp.lt q hq).1; show q ≠ g.2.1; omega, fun q hq => by have := (hs.lt q hq).1; show q ≠ g.2.1; omega⟩
  · rw [setL_ne (by decide)] at a
    have h1 := lt_heap (h.f a).2
    exact ⟨fun q hq => by have := (hp.lt q hq).1; show q ≠ g.2.2.1; omega, fun q hq => by have := (hs.lt q hq).1; show q ≠ g.2.2.1; omega⟩
  · rw [setL_ne (by decide), h13] at a; cases a
theorem DI.m8 (h : DI n G t w1 L g w) (h13 : L 13 = false) : DI n G t w1 (setL L 8) (g.1, w.heap.size, g.2.2) (w.alloc (.cells (madeCells #[.int .i64 0] n) 3 (0, 0))) := by
  have hb : Below w.heap.size w (w.alloc (.cells (madeCells #[.int .i64 0] n) 3 (0, 0))) := (Below.refl _ _).alloc (Nat.le_refl _) _
  refine ⟨h.low.alloc h.low.size _, fun a => ?_, fun a => ?_, fun a => ?_, fun _ => ⟨h.low.size, alloc_at _ _ _ rfl⟩, fun a => ?_, fun _ a => ?_, fun a _ => ?_, fun a b => ?_, fun a => ?_⟩
  · rw [setL_ne (by decide)] at a; exact own_below (h.tp a) hb
  · rw [setL_ne (by decide)] at a; exact own_below (h.ts a) hb
  · rw [setL_ne (by decide)] at a; exact h.tt a
  · rw [setL_ne (by decide)] at a; exact old_below (h.f a) hb
  · rw [setL_ne (by decide)] at a
    have := lt_heap (h.f a).2
    show w.heap.size ≠ g.2.2.1
    omega
  · rw [setL_ne (by decide)] at a
    exact ⟨fun q hq => by have := ((h.tp a).lt q hq).2; show q ≠ w.heap.size; omega, fun q hq => by have := ((h.ts a).lt q hq).2; show q ≠ w.heap.size; omega⟩
  · rw [setL_ne (by decide)] at a b; exact h.pnf a b
  · rw [setL_ne (by decide), h13] at a; cases a
theorem DI.m11 (h : DI n G t w1 L g w) (h13 : L 13 = false) : DI n G t w1 (setL L 11) (g.1, g.2.1, w.heap.size, g.2.2.2) (w.alloc (.cells (madeCells #[.int .i64 0] n) 3 (0, 0))) := by
  have hb : Below w.heap.size w (w.alloc (.cells (madeCells #[.int .i64 0] n) 3 (0, 0))) := (Below.refl _ _).alloc (Nat.le_refl _) _
  refine ⟨h.low.alloc h.low.size _, fun a => ?_, fun a => ?_, fun a => ?_, fun a => ?_, fun _ => ⟨h.low.size, alloc_at _ _ _ rfl⟩, fun a _ => ?_, fun a b => ?_, fun a _ => ?_, fun a => ?_⟩
  · rw [setL_ne (by decide)] at a; exact own_below (h.tp a) hb
  · rw [setL_ne (by decide)] at a; exact own_below (h.ts a) hb
  · rw [setL_ne (by decide)] at a; exact h.tt a
  · rw [setL_ne (by decide)] at a; exact old_below (h.o a) hb
  · rw [setL_ne (by decide)] at a
    have := lt_heap (h.o a).2
    show g.2.1 ≠ w.heap.size
    omega
  · rw [setL_ne (by decide)] at a b; exact h.pno a b
  · rw [setL_ne (by decide)] at a
    exact ⟨fun q hq => by have := ((h.tp a).lt q hq).2; show q ≠ w.heap.size; omega, fun q hq => by have := ((h.ts a).lt q hq).2; show q ≠ w.heap.size; omega⟩
  · rw [setL_ne (by decide), h13] at a; cases a
theorem DI.m13 (h : DI n G t w1 L g w) : DI n G t w1 (setL L 13) (g.1, g.2.1, g.2.2.1, w.heap.size) (w.alloc (.cells #[.pointer (some ⟨G, 0, none⟩), .slice g.1.1 n g.1.2.1, .slice g.1.2.2.1 n g.1.2.2.2, .slice (some ⟨g.2.1, 0, none⟩) n n, .slice (some ⟨g.2.2.1, 0, none⟩) n n] 58 (0, 0))) := by
  have hb : Below w.heap.size w (w.alloc (.cells #[.pointer (some ⟨G, 0, none⟩), .slice g.1.1 n g.1.2.1, .slice g.1.2.2.1 n g.1.2.2.2, .slice (some ⟨g.2.1, 0, none⟩) n n, .slice (some ⟨g.2.2.1, 0, none⟩) n n] 58 (0, 0))) := (Below.refl _ _).alloc (Nat.le_refl _) _
  refine ⟨h.low.alloc h.low.size _, fun a => ?_, fun a => ?_, fun a => ?_, fun a => ?_, fun a => ?_, fun a b => ?_, fun a b => ?_, fun a b => ?_, fun _ => ⟨h.low.size, alloc_at _ _ _ rfl⟩⟩
  · rw [setL_ne (by decide)] at a; exact own_below (h.tp a) hb
  · rw [setL_ne (by decide)] at a; exact own_below (h.ts a) hb
  · rw [setL_ne (by decide)] at a; exact h.tt a
  · rw [setL_ne (by decide)] at a; exact old_below (h.o a) hb
  · rw [setL_ne (by decide)] at a; exact old_below (h.f a) hb
  · rw [setL_ne (by decide)] at a b; exact h.of a b
  · rw [setL_ne (by decide)] at a b; exact h.pno a b
  · rw [setL_ne (by decide)] at a b; exact h.pnf a b
end
def dV3 (G n og oc : Nat) (g : DG) : List Value :=
  [.pointer (some ⟨G, 0, none⟩), .pointer (some ⟨G, 0, none⟩), .pointer (some ⟨G, 0, none⟩), .pointer (some ⟨G, 0, none⟩), .slice (some ⟨og, 0, none⟩) n oc, .agg #[.slice g.1.1 n g.1.2.1, .slice g.1.2.2.1 n g.1.2.2.2], .pointer (some ⟨G, 0, none⟩), .int .i64 n, .slice (some ⟨g.2.1, 0, none⟩) n n, .pointer (some ⟨G, 0, none⟩), .int .i64 n, .slice (some ⟨g.2.2.1, 0, none⟩) n n,
   .agg #[.pointer (some ⟨G, 0, none⟩), .slice g.1.1 n g.1.2.1, .slice g.1.2.2.1 n g.1.2.2.2, .slice (some ⟨g.2.1, 0, none⟩) n n, .slice (some ⟨g.2.2.1, 0, none⟩) n n], .pointer (some ⟨g.2.2.2, 0, none⟩), .pointer (some ⟨g.2.2.2, 0, none⟩)]
/-- The searches, one behind the other, end. -/
def findsOk (t : Tr) (ins : List (List Int)) (K : Nat) : List Int → Lo → Bool
  | [], _ => true
  | b :: bs, l => findOk t ins b K ((gr ins b).filter (fun c => t.over b c)) l && findsOk t ins K bs (Lo.find t ins b K ((gr ins b).filter (fun c => t.over b c)) l)
def topStep (t : Tr) (ins : List (List Int)) (K : Nat) (x : Lo × List Bool) (b : Int) : Lo × List Bool :=
  (Lo.find t ins b K ((gr ins b).filter (fun c => t.over b c)) x.1, x.2.set b.toNat (!((gr ins b).filter (fun c => t.over b c)).isEmpty))
def depStep (outer : List Int) (tops : List Bool) (d : List Int) (b : Int) : List Int :=
  let d1 := if gi outer b ≠ -1 then d.set b.toNat (gi d (gi outer b)) else d
  if tops.getD b.toNat false then d1.set b.toNat (gi d1 b + 1) else d1
theorem depthsL_eq (g : Gr) : depthsL g = (orderL g.outs).foldl (depStep ((orderL g.outs).reverse.foldl (topStep (ofL g.outs) g.ins (2 * edges g.ins + g.outs.length + 1)) (⟨List.replicate g.outs.length (-1), upto g.outs.length⟩, List.replicate g.outs.length false)).1.outer ((orderL g.outs).reverse.foldl (topStep (ofL g.outs) g.ins (2 * edges g.ins + g.outs.length + 1)) (⟨List.replicate g.outs.length (-1), upto g.outs.length⟩, List.replicate g.outs.length false)).2) (List.replicate g.outs.length 0) := rfl
end Go.Proofs.Ytipongpgmbhpkaa
