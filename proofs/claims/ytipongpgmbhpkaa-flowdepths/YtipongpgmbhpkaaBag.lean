/-
  Rows of numbers that a call has made, told one by one: what is read, put, appended, cut, made.
-/
import Derived.Test.YtipongpgmbhpkaaProg
import Derived.ProofKit
import Derived.WalkKit
import Derived.Deep.AppendLies
import Derived.Deep.CutBlock
import Derived.Lib.Builder
import Derived.Lib.Hide
import Derived.Below
import Derived.Test.YtipongpgmbhpkaaRegInv
namespace Go.Proofs.Ytipongpgmbhpkaa
open Go.ChangeShapes Go.WideShapes Go.ChangeAt Go.RowKit
set_option linter.unusedVariables false

theorem lt_heap {w : World} {b : Nat} {o : Obj} (h : w.heap[b]? = some o) : b < w.heap.size := (Array.getElem?_eq_some_iff.1 h).1
theorem cell_ok {w : World} {b : Nat} {cs : Array Value} {t : TypeId} (h : w.heap[b]? = some (.cells cs t (0, 0))) (j : Nat) : w.cell? ⟨b, j, none⟩ = cs[j]? := Lib.cell_of_heap h j
theorem alloc_at (w : World) (o : Obj) (n : Nat) (hn : n = w.heap.size) : (w.alloc o).heap[n]? = some o := by subst hn; exact heap_alloc_new w o
theorem set_block (w : World) (R j : Nat) (cs : Array Value) (v : Value) (t : TypeId) (h : w.heap[R]? = some (.cells cs t (0, 0))) : (w.setCell ⟨R, j, none⟩ v).heap[R]? = some (.cells (cs.setIfInBounds j v) t (0, 0)) := by
  simp [World.setCell, Array.getElem?_modify, h]
theorem grown_alloc (w : World) (o : Obj) : w.grownBy (w.alloc o) none := ⟨rfl, rfl, rfl, by simp, fun k hk _ => Below.heap_alloc w o k hk⟩
theorem below_put {B b : Nat} {w w' : World} (h : Below B w w') (hb : B ≤ b) (j : Nat) (v : Value) : Below B w (w'.setCell ⟨b, j, none⟩ v) := h.setCell hb v
theorem own_keep {w w' : World} {B : Nat} {e : TypeId} {s n : Nat} {v : Value} {xs : List Value} (h : w.ownsRow B e s v n xs) (hk : ∀ q, v.ownBlock = some q → w'.heap[q]? = w.heap[q]?) : w'.ownsRow B e s v n xs := by
  refine ⟨h.1, ?_⟩
  rcases h.2 with hn | ⟨g, cap, cur, rfl, hb, hgg, rest⟩
  · exact .inl hn
  · exact .inr ⟨g, cap, cur, rfl, hb, (hk g rfl).trans hgg, rest⟩
/-- A row's own block holds elements of its type. -/
theorem own_type {w : World} {B : Nat} {e : TypeId} {s n : Nat} {v : Value} {xs : List Value} (h : w.ownsRow B e s v n xs) {q : Nat} (hq : v.ownBlock = some q) : ∃ cs, w.heap[q]? = some (.cells cs e (0, 0)) := by
  rcases h.2 with ⟨rfl, _⟩ | ⟨g, cap, cur, rfl, hb, hgg, rest⟩
  · cases hq
  · cases hq; exact ⟨_, hgg⟩
theorem own_apart {w : World} {B B' : Nat} {e e' : TypeId} {s s' n n' : Nat} {v v' : Value} {xs xs' : List Value} (h : w.ownsRow B e s v n xs) (h' : w.ownsRow B' e' s' v' n' xs') (hne : e ≠ e') {q : Nat} (hq : v.ownBlock = some q) : v'.ownBlock ≠ some q := by
  intro hq'
  obtain ⟨cs, h1⟩ := own_type h hq
  obtain ⟨cs', h2⟩ := own_type h' hq'
  rw [h1] at h2
  simp only [Option.some.injEq, Obj.cells.injEq] at h2
  exact hne h2.2.1
theorem own_slice {w : World} {B : Nat} {e : TypeId} {s n : Nat} {v : Value} {xs : List Value} (h : w.ownsRow B e s v n xs) : (v = .slice none 0 0 ∧ n = 0) ∨ ∃ g cap, v = .slice (some ⟨g, 0, none⟩) n cap ∧ B ≤ g ∧ g < w.heap.size ∧ n ≤ cap := by
  rcases h.2 with hn | ⟨g, cap, cur, rfl, hb, hgg, hc, _⟩
  · exact .inl hn
  · exact .inr ⟨g, cap, rfl, hb, lt_heap hgg, hc⟩
theorem own_cell {w : World} {B : Nat} {e : TypeId} {n cap g : Nat} {xs : List Value} (h : w.ownsRow B e 1 (.slice (some ⟨g, 0, none⟩) n cap) n xs) {j : Nat} {u : Value} (hj : xs[j]? = some u) : w.cell? ⟨g, j, none⟩ = some u := by
  have add : ∀ j, (⟨g, 0, none⟩ : Addr).add j = ⟨g, j, none⟩ := fun j => by unfold Addr.add; split <;> simp_all
  have := h.cells (g := g) rfl j u hj
  rwa [add] at this
theorem own_len {w : World} {B : Nat} {e : TypeId} {n : Nat} {v : Value} {xs : List Value} (h : w.ownsRow B e 1 v n xs) : xs.length = n := by have := h.1; omega
/-- An element is put. -/
theorem own_put {w : World} {B : Nat} {e : TypeId} {n cap g : Nat} {xs : List Value} (h : w.ownsRow B e 1 (.slice (some ⟨g, 0, none⟩) n cap) n xs) {j : Nat} (hj : j < n) (u : Value) : (w.setCell ⟨g, j, none⟩ u).ownsRow B e 1 (.slice (some ⟨g, 0, none⟩) n cap) n (xs.set j u) := by
  refine ⟨by rw [List.length_set]; exact h.1, ?_⟩
  rcases h.2 with ⟨h1, _⟩ | ⟨g', cap', cur, h1, hb, hgg, hc, hm, hs, ht⟩
  · cases h1
  · cases h1
    refine .inr ⟨g, cap, cur.setIfInBounds j u, rfl, hb, set_block _ _ _ _ _ _ hgg, hc, hm, by simpa using hs, ?_⟩
    rw [← ht, Array.toList_setIfInBounds, List.take_set]
/-- A row is cut short. -/
theorem own_take {w : World} {B : Nat} {e : TypeId} {n m cap : Nat} {a : Option Addr} {xs : List Value} (h : w.ownsRow B e 1 (.slice a n cap) n xs) (ha : m < n) : w.ownsRow B e 1 (.slice a m cap) m (xs.take m) := by
  have hl := own_len h
  refine ⟨by rw [List.length_take]; omega, ?_⟩
  rcases h.2 with ⟨h1, h2⟩ | ⟨g, cap', cur, h1, hb, hgg, hn, hc, hcs, htk⟩
  · omega
  · cases h1
    refine .inr ⟨g, cap, cur, rfl, hb, hgg, by omega, hc, hcs, ?_⟩
    rw [← htk, List.take_take, Nat.mul_one, Nat.mul_one, Nat.min_eq_left (by omega)]
/-- A row that was just made. -/
theorem own_new {B : Nat} {e : TypeId} (w : World) (hB : B ≤ w.heap.size) (cs : Array Value) (hm : cs.size ≤ maxLen) : (w.alloc (.cells cs e)).ownsRow B e 1 (.slice (some ⟨w.heap.size, 0, none⟩) cs.size cs.size) cs.size cs.toList :=
  ⟨by simp, .inr ⟨w.heap.size, cs.size, cs, rfl, hB, alloc_at _ _ _ rfl, Nat.le_refl _, hm, by simp, by rw [Nat.mul_one, ← Array.length_toList, List.take_length]⟩⟩
theorem own_nil (w : World) (B : Nat) (e : TypeId) : w.ownsRow B e 1 (.slice none 0 0) 0 [] := ⟨rfl, .inl ⟨rfl, rfl⟩⟩
def iV (x : Int) : Value := .int .i64 x
/-- Rows of numbers, each of a block of its own. -/
structure Bag (B : Nat) (w : World) (rs : List (Value × List Int)) : Prop where
  row : ∀ (i : Nat) (v : Value) (xs : List Int), rs[i]? = some (v, xs) → w.ownsRow B 3 1 v xs.length (xs.map iV)
  apart : ∀ (i j : Nat) (r s : Value × List Int), rs[i]? = some r → rs[j]? = some s → i ≠ j → ∀ q, r.1.ownBlock = some q → s.1.ownBlock ≠ some q
theorem Bag.lt {B : Nat} {w : World} {rs : List (Value × List Int)} (h : Bag B w rs) {i : Nat} {r : Value × List Int} (hi : rs[i]? = some r) {q : Nat} (hq : r.1.ownBlock = some q) : B ≤ q ∧ q < w.heap.size := (h.row i r.1 r.2 hi).lt q hq
theorem Bag.keep {B : Nat} {w w' : World} {rs : List (Value × List Int)} (h : Bag B w rs) (hk : ∀ (i : Nat) (r : Value × List Int), rs[i]? = some r → ∀ q, r.1.ownBlock = some q → w'.heap[q]? = w.heap[q]?) : Bag B w' rs :=
  ⟨fun i v xs hi => own_keep (h.row i v xs hi) (hk i _ hi), h.apart⟩
theorem Bag.below {B : Nat} {w w' : World} {rs : List (Value × List Int)} (h : Bag B w rs) (hb : Below w.heap.size w w') : Bag B w' rs := h.keep (fun i r hi q hq => hb.block q (h.lt hi hq).2)
/-- A block of another type is turned. -/
theorem Bag.other {B : Nat} {w : World} {rs : List (Value × List Int)} (h : Bag B w rs) {R : Nat} {cs : Array Value} {t : TypeId} (hR : w.heap[R]? = some (.cells cs t (0, 0))) (ht : t ≠ 3) (j : Nat) (u : Value) : Bag B (w.setCell ⟨R, j, none⟩ u) rs := by
  refine h.keep (fun i r hi q hq => ?_)
  refine Below.heap_setCell _ _ _ _ ?_
  rintro rfl
  obtain ⟨cs', h1⟩ := own_type (h.row i r.1 r.2 hi) hq
  rw [hR] at h1
  simp only [Option.some.injEq, Obj.cells.injEq] at h1
  exact ht h1.2.1
/-- A number is put. -/
theorem Bag.put {B : Nat} {w : World} {rs : List (Value × List Int)} (h : Bag B w rs) {i g n cap : Nat} {xs : List Int} (hi : rs[i]? = some (.slice (some ⟨g, 0, none⟩) n cap, xs)) (hn : xs.length = n) {j : Nat} (hj : j < n) (x : Int) : Bag B (w.setCell ⟨g, j, none⟩ (.int .i64 x)) (rs.set i (.slice (some ⟨g, 0, none⟩) n cap, xs.set j x)) := by
  subst hn
  have hil := (List.getElem?_eq_some_iff.1 hi).1
  refine ⟨fun k v ys hk => ?_, fun k l r s hk hl hne q hq => ?_⟩
  · by_cases hki : i = k
    · subst hki
      rw [List.getElem?_set_self hil] at hk
      cases hk
      have := own_put (h.row i _ _ hi) hj (iV x)
      rw [List.length_set, List.map_set]
      exact this
    · rw [List.getElem?_set_ne hki] at hk
      refine own_keep (h.row k v ys hk) (fun q hq => Below.heap_setCell _ _ _ _ ?_)
      rintro rfl
      exact h.apart i k _ _ hi hk hki _ rfl hq
  · by_cases hki : i = k
    · subst hki
      rw [List.getElem?_set_self hil] at hk
      cases hk
      rw [List.getElem?_set_ne hne] at hl
      exact h.apart i l _ _ hi hl hne q hq
    · rw [List.getElem?_set_ne hki] at hk
      by_cases hli : i = l
      · subst hli
        rw [List.getElem?_set_self hil] at hl
        cases hl
        exact h.apart k i _ _ hk hi hne q hq
      · rw [List.getElem?_set_ne hli] at hl
        exact h.apart k l _ _ hk hl hne q hq
/-- A row is grown by a number. -/
theorem Bag.app {B : Nat} {w w' : World} {rs : List (Value × List Int)} (h : Bag B w rs) {i g' cap' n : Nat} {v : Value} {xs : List Int} (hi : rs[i]? = some (v, xs)) (hn : xs.length = n) (x : Int) (hown : w'.ownsRow B 3 1 (.slice (some ⟨g', 0, none⟩) (n + 1) cap') (n + 1) (xs.map iV ++ [.int .i64 x])) (hg : w.grownBy w' v.ownBlock) (hat : v.ownBlock = some g' ∨ w.heap.size ≤ g') : Bag B w' (rs.set i (.slice (some ⟨g', 0, none⟩) (n + 1) cap', xs ++ [x])) := by
  subst hn
  have hil := (List.getElem?_eq_some_iff.1 hi).1
  have hnew : ∀ (k : Nat) (r : Value × List Int), rs[k]? = some r → i ≠ k → ∀ q, r.1.ownBlock = some q → q ≠ g' := by
    intro k r hk hne q hq e
    subst e
    rcases hat with hat | hat
    · exact h.apart i k _ _ hi hk hne q hat hq
    · exact absurd (h.lt hk hq).2 (by omega)
  refine ⟨fun k u ys hk => ?_, fun k l r s hk hl hne q hq => ?_⟩
  · by_cases hki : i = k
    · subst hki
      rw [List.getElem?_set_self hil] at hk
      cases hk
      rw [List.length_append, List.map_append]
      exact hown
    · rw [List.getElem?_set_ne hki] at hk
      refine own_keep (h.row k u ys hk) (fun q hq => hg.block q (h.lt hk hq).2 (fun e => ?_))
      exact h.apart i k _ _ hi hk hki q e.symm hq
  · by_cases hki : i = k
    · subst hki
      rw [List.getElem?_set_self hil] at hk
      cases hk
      cases hq
      rw [List.getElem?_set_ne hne] at hl
      intro e
      exact hnew l s hl hne _ e rfl
    · rw [List.getElem?_set_ne hki] at hk
      by_cases hli : i = l
      · subst hli
        rw [List.getElem?_set_self hil] at hl
        cases hl
        intro e
        cases e
        exact hnew k r hk hki _ hq rfl
      · rw [List.getElem?_set_ne hli] at hl
        exact h.apart k l _ _ hk hl hne q hq
/-- A row is cut short. -/
theorem Bag.take {B : Nat} {w : World} {rs : List (Value × List Int)} (h : Bag B w rs) {i n m cap : Nat} {a : Option Addr} {xs : List Int} (hi : rs[i]? = some (.slice a n cap, xs)) (hn : xs.length = n) (hm : m < n) : Bag B w (rs.set i (.slice a m cap, xs.take m)) := by
  subst hn
  have hil := (List.getElem?_eq_some_iff.1 hi).1
  have hob : ∀ q, (Value.slice a m cap).ownBlock = some q ↔ (Value.slice a xs.length cap).ownBlock = some q := by
    intro q; cases a <;> exact Iff.rfl
  refine ⟨fun k u ys hk => ?_, fun k l r s hk hl hne q hq => ?_⟩
  · by_cases hki : i = k
    · subst hki
      rw [List.getElem?_set_self hil] at hk
      cases hk
      have := own_take (h.row i _ _ hi) hm
      rw [List.length_take, Nat.min_eq_left (by omega), List.map_take]
      exact this
    · rw [List.getElem?_set_ne hki] at hk
      exact h.row k u ys hk
  · by_cases hki : i = k
    · subst hki
      rw [List.getElem?_set_self hil] at hk
      cases hk
      rw [List.getElem?_set_ne hne] at hl
      exact h.apart i l _ _ hi hl hne q ((hob q).1 hq)
    · rw [List.getElem?_set_ne hki] at hk
      by_cases hli : i = l
      · subst hli
        rw [List.getElem?_set_self hil] at hl
        cases hl
        intro e
        exact h.apart k i _ _ hk hi hne q hq ((hob q).1 e)
      · rw [List.getElem?_set_ne hli] at hl
        exact h.apart k l _ _ hk hl hne q hq
/-- One row more. -/
theorem Bag.add {B : Nat} {w w' : World} {rs : List (Value × List Int)} (h : Bag B w rs) (hb : Below w.heap.size w w') (v : Value) (xs : List Int) (hown : w'.ownsRow B 3 1 v xs.length (xs.map iV)) (hnew : ∀ q, v.ownBlock = some q → w.heap.size ≤ q) : Bag B w' (rs ++ [(v, xs)]) := by
  have hb' := h.below hb
  have key : ∀ (k : Nat) (r : Value × List Int), (rs ++ [(v, xs)])[k]? = some r → (k < rs.length ∧ rs[k]? = some r) ∨ (k = rs.length ∧ r = (v, xs)) := by
    intro k r hk
    rcases Nat.lt_trichotomy k rs.length with hlt | rfl | hgt
    · rw [List.getElem?_append_left hlt] at hk; exact .inl ⟨hlt, hk⟩
    · rw [List.getElem?_append_right (Nat.le_refl _), Nat.sub_self] at hk
      simp only [List.getElem?_cons_zero, Option.some.injEq] at hk
      exact .inr ⟨rfl, hk.symm⟩
    · rw [List.getElem?_eq_none (by simp; omega)] at hk; cases hk
  refine ⟨fun k u ys hk => ?_, fun k l r s hk hl hne q hq => ?_⟩
  · rcases key k _ hk with ⟨_, hk'⟩ | ⟨_, e⟩
    · exact hb'.row k u ys hk'
    · cases e; exact hown
  · rcases key k _ hk with ⟨_, hk'⟩ | ⟨rfl, rfl⟩
    · rcases key l _ hl with ⟨_, hl'⟩ | ⟨_, rfl⟩
      · exact h.apart k l r s hk' hl' hne q hq
      · intro e
        have h1 := (h.lt hk' hq).2
        have h2 := hnew q e
        omega
    · rcases key l _ hl with ⟨_, hl'⟩ | ⟨rfl, rfl⟩
      · intro e
        have h1 := (h.lt hl' e).2
        have h2 := hnew q hq
        omega
      · exact absurd rfl hne
theorem Bag.nil (B : Nat) (w : World) : Bag B w [] := ⟨fun i v xs h => by simp at h, fun i j r s h => by simp at h⟩
end Go.Proofs.Ytipongpgmbhpkaa
