/-
  dom: the finder in memory, in a bag of rows.
-/
import Derived.Test.YtipongpgmbhpkaaDomM
namespace Go.Proofs.Ytipongpgmbhpkaa
open Go.ChangeShapes Go.WideShapes Go.ChangeAt Go.RowKit
set_option linter.unusedVariables false

/-- The finder's three rows stand at i, i + 1, i + 2 of the bag. -/
structure FinderAt (B : Nat) (w : World) (F : Nat) (hv ev bv : Value) (f : Fn) (rs : List (Value × List Int)) (i : Nat) : Prop where
  box : w.heap[F]? = some (.cells #[hv, ev, bv] 70 (0, 0))
  low : B ≤ F
  bag : Bag B w rs
  hangs : rs[i]? = some (hv, f.hangs)
  entry : rs[i + 1]? = some (ev, f.entry)
  best : rs[i + 2]? = some (bv, f.best)
theorem FinderAt.below {B : Nat} {w w' : World} {F : Nat} {hv ev bv : Value} {f : Fn} {rs : List (Value × List Int)} {i : Nat} (h : FinderAt B w F hv ev bv f rs i) (hb : Below w.heap.size w w') : FinderAt B w' F hv ev bv f rs i :=
  ⟨(hb.block F (lt_heap h.box)).trans h.box, h.low, h.bag.below hb, h.hangs, h.entry, h.best⟩
/-- A row of the bag is no finder. -/
theorem Bag.ne_box {B : Nat} {w : World} {rs : List (Value × List Int)} (h : Bag B w rs) {F : Nat} {cs : Array Value} {t : TypeId} (hF : w.heap[F]? = some (.cells cs t (0, 0))) (ht : 3 ≠ t) {j : Nat} {r : Value × List Int} (hj : rs[j]? = some r) {q : Nat} (hq : r.1.ownBlock = some q) : F ≠ q := ne_type (h.row j r.1 r.2 hj) hF ht hq
theorem FinderAt.puthangs {B : Nat} {w : World} {F g n cap : Nat} {ev bv : Value} {f : Fn} {rs : List (Value × List Int)} {i : Nat} (h : FinderAt B w F (.slice (some ⟨g, 0, none⟩) n cap) ev bv f rs i) (hn : f.hangs.length = n) {j : Nat} (hj : j < n) (x : Int) :
    FinderAt B (w.setCell ⟨g, j, none⟩ (.int .i64 x)) F (.slice (some ⟨g, 0, none⟩) n cap) ev bv ⟨f.hangs.set j x, f.entry, f.best⟩ (rs.set i (.slice (some ⟨g, 0, none⟩) n cap, f.hangs.set j x)) i := by
  have hl := (List.getElem?_eq_some_iff.1 h.hangs).1
  have h0 : F ≠ g := h.bag.ne_box h.box (by decide) h.hangs rfl
  refine ⟨(Below.heap_setCell _ _ _ _ h0).trans h.box, h.low, h.bag.put h.hangs hn hj x, ?_, ?_, ?_⟩
  · rw [List.getElem?_set_self hl]
  · rw [List.getElem?_set_ne (by omega)]; exact h.entry
  · rw [List.getElem?_set_ne (by omega)]; exact h.best
theorem FinderAt.putentry {B : Nat} {w : World} {F g n cap : Nat} {hv bv : Value} {f : Fn} {rs : List (Value × List Int)} {i : Nat} (h : FinderAt B w F hv (.slice (some ⟨g, 0, none⟩) n cap) bv f rs i) (hn : f.entry.length = n) {j : Nat} (hj : j < n) (x : Int) :
    FinderAt B (w.setCell ⟨g, j, none⟩ (.int .i64 x)) F hv (.slice (some ⟨g, 0, none⟩) n cap) bv ⟨f.hangs, f.entry.set j x, f.best⟩ (rs.set (i + 1) (.slice (some ⟨g, 0, none⟩) n cap, f.entry.set j x)) i := by
  have hl := (List.getElem?_eq_some_iff.1 h.entry).1
  have h0 : F ≠ g := h.bag.ne_box h.box (by decide) h.entry rfl
  refine ⟨(Below.heap_setCell _ _ _ _ h0).trans h.box, h.low, h.bag.put h.entry hn hj x, ?_, ?_, ?_⟩
  · rw [List.getElem?_set_ne (by omega)]; exact h.hangs
  · rw [List.getElem?_set_self hl]
  · rw [List.getElem?_set_ne (by omega)]; exact h.best
theorem FinderAt.putbest {B : Nat} {w : World} {F g n cap : Nat} {hv ev : Value} {f : Fn} {rs : List (Value × List Int)} {i : Nat} (h : FinderAt B w F hv ev (.slice (some ⟨g, 0, none⟩) n cap) f rs i) (hn : f.best.length = n) {j : Nat} (hj : j < n) (x : Int) :
    FinderAt B (w.setCell ⟨g, j, none⟩ (.int .i64 x)) F hv ev (.slice (some ⟨g, 0, none⟩) n cap) ⟨f.hangs, f.entry, f.best.set j x⟩ (rs.set (i + 2) (.slice (some ⟨g, 0, none⟩) n cap, f.best.set j x)) i := by
  have hl := (List.getElem?_eq_some_iff.1 h.best).1
  have h0 : F ≠ g := h.bag.ne_box h.box (by decide) h.best rfl
  refine ⟨(Below.heap_setCell _ _ _ _ h0).trans h.box, h.low, h.bag.put h.best hn hj x, ?_, ?_, ?_⟩
  · rw [List.getElem?_set_ne (by omega)]; exact h.hangs
  · rw [List.getElem?_set_ne (by omega)]; exact h.entry
  · rw [List.getElem?_set_self hl]

/-! ### 'least' goes through numbers that hang on lesser ones -/
/-- All that hang hang on a lesser number; a number's rows have n places, their entries lie in them. -/
structure Fn.ok (f : Fn) (n : Nat) : Prop where
  hl : f.hangs.length = n
  el : f.entry.length = n
  bl : f.best.length = n
  hang : ∀ (v : Nat) (x : Int), f.hangs[v]? = some x → x = -1 ∨ (0 ≤ x ∧ x < (v : Int))
  ein : ∀ x ∈ f.entry, 0 ≤ x ∧ x < (n : Int)
  bin : ∀ x ∈ f.best, 0 ≤ x ∧ x < (n : Int)
theorem gi_get {l : List Int} {v : Nat} (h : v < l.length) : l[v]? = some (gi l (v : Int)) := by
  unfold gi
  rw [Int.toNat_natCast, List.getD_eq_getElem?_getD, List.getElem?_eq_getElem h]; rfl
theorem gi_mem {l : List Int} {v : Nat} (h : v < l.length) : gi l (v : Int) ∈ l := List.mem_of_getElem? (gi_get h)
theorem Fn.ok.at {f : Fn} {n : Nat} (h : f.ok n) {v : Nat} (hv : v < n) : gi f.hangs v = -1 ∨ (0 ≤ gi f.hangs v ∧ gi f.hangs v < (v : Int)) := h.hang v _ (gi_get (by rw [h.hl]; exact hv))
theorem mem_set {l : List Int} {P : Int → Prop} (h : ∀ x ∈ l, P x) (j : Nat) {y : Int} (hy : P y) : ∀ x ∈ l.set j y, P x := by
  intro x hx
  rcases List.mem_or_eq_of_mem_set hx with hx | rfl
  · exact h x hx
  · exact hy
/-- One is made shorter: where what u hangs on hangs on something itself. -/
theorem Fn.ok.short {f : Fn} {n : Nat} (h : f.ok n) {u : Nat} (hu : u < n) (h1 : gi f.hangs u ≠ -1) (h2 : gi f.hangs (gi f.hangs u) ≠ -1) : (f.short u).ok n := by
  rcases h.at hu with e | ⟨a, b⟩
  · exact absurd e h1
  obtain ⟨o, ho⟩ : ∃ o : Nat, gi f.hangs u = o := ⟨(gi f.hangs u).toNat, by omega⟩
  rw [ho] at a b h2
  have hon : o < n := by omega
  rcases h.at hon with e | ⟨c, d⟩
  · exact absurd e h2
  unfold Fn.short
  rw [ho, Int.toNat_natCast]
  refine ⟨by simp [h.hl], h.el, ?_, ?_, h.ein, ?_⟩
  · dsimp only; split <;> simp [h.bl]
  · intro v x hx
    by_cases hv : u = v
    · subst hv
      rw [List.getElem?_set_self (by rw [h.hl]; exact hu)] at hx
      cases hx
      exact .inr ⟨c, by omega⟩
    · rw [List.getElem?_set_ne hv] at hx
      exact h.hang v x hx
  · dsimp only
    split
    · exact mem_set h.bin u (h.bin _ (gi_mem (by rw [h.bl]; exact hon)))
    · exact h.bin
end Go.Proofs.Ytipongpgmbhpkaa
