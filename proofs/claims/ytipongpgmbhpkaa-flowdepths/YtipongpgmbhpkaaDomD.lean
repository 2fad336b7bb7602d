/-
  dom: a way, whole.
-/
import Derived.Test.YtipongpgmbhpkaaDomC
namespace Go.Proofs.Ytipongpgmbhpkaa
open Go.ChangeShapes Go.WideShapes Go.ChangeAt Go.RowKit
open Go.Proofs.Ytipongpgmbhpkaa.RegInv
set_option linter.unusedVariables false

theorem Wk.ok.meet {s : Wk} (h : s.ok) (t : Nat) (x : Int) : (s.meet t x).ok := by
  refine ⟨fun y hy => ?_, ?_⟩
  · unfold Wk.meet at hy ⊢
    rcases List.mem_or_eq_of_mem_set hy with hy | rfl
    · rcases h.1 y hy with h1 | ⟨h1, h2⟩
      · exact .inl h1
      · refine .inr ⟨h1, ?_⟩
        simp only [List.length_append, List.length_singleton]; omega
    · refine .inr ⟨by omega, ?_⟩
      simp only [List.length_append, List.length_singleton]; omega
  · unfold Wk.meet
    simp [h.2]
theorem Wk.ok.way {s : Wk} (h : s.ok) (v : Nat) (x : Int) : (s.way v x).ok := ⟨h.1, by unfold Wk.way; simp [h.2]⟩
theorem Wk.ok.goes {s : Wk} (h : s.ok) (f t : Nat) : (s.goes f t).ok := by
  unfold Wk.goes
  split
  · exact (h.meet _ _).way _ _
  · exact h.way _ _
theorem goes_any {B : Nat} {w : World} {W : Nat} {nv pv iv : Value} {hs : List Value} {s : Wk} {ext : List (Value × List Int)} (h : WalkAt B w W nv pv iv hs s ext) (hok : s.ok) (f t : Nat) (hf : f < s.num.length) (ht : t < s.num.length) (hnum : s.num.length ≤ 1000000) (hpar : s.par.length ≤ 1000000) (hrow : ∀ r ∈ s.ins, r.length ≤ 1000000000) :
    Calls Try.prog 28 #[.pointer (some ⟨W, 0, none⟩), .int .i64 f, .int .i64 t] w (GoesPost B W nv (s.goes f t) ext (s.isNew t) w) := by
  have e1 : s.num[f]? = some (s.num.getD f 0) := by rw [List.getD_eq_getElem?_getD, List.getElem?_eq_getElem hf]; rfl
  have e2 : s.num[t]? = some (s.num.getD t 0) := by rw [List.getD_eq_getElem?_getD, List.getElem?_eq_getElem ht]; rfl
  by_cases hn : s.num.getD t 0 = -1
  · have e3 : (s.num.set t (s.par.length : Int))[f]? = some ((s.num.set t (s.par.length : Int)).getD f 0) := by
      rw [List.getD_eq_getElem?_getD, List.getElem?_eq_getElem (by rw [List.length_set]; exact hf)]; rfl
    have hi : s.isNew t = true := by unfold Wk.isNew; rw [hn]; rfl
    have := goes_new h hok f t _ _ e1 (by rw [e2, hn]) e3 hnum hpar hrow
    rw [hi]
    unfold Wk.goes
    rw [hi, if_pos rfl]
    exact this
  · have hi : s.isNew t = false := by unfold Wk.isNew; exact decide_eq_false hn
    have hv : s.num.getD t 0 = ((s.num.getD t 0).toNat : Int) := by
      have := hok.1 _ (List.mem_of_getElem? e2)
      omega
    have := goes_old h hok f t (s.num.getD t 0).toNat _ e1 (by rw [e2]; exact congrArg some hv) hnum hpar hrow
    rw [hi]
    unfold Wk.goes
    rw [hi, if_neg (by decide)]
    exact this
/-- Rows that are read alone: they lie below B. -/
structure RowAt (B : Nat) (w : World) (v : Value) (xs : List Int) : Prop where
  lies : (v = .slice none 0 0 ∧ xs = []) ∨ ∃ b off cap, v = .slice (some ⟨b, off, none⟩) xs.length cap ∧ b < B ∧ b < w.heap.size ∧ ∀ j x, xs[j]? = some x → w.cell? ⟨b, off + j, none⟩ = some (.int .i64 x)
theorem RowAt.below {B : Nat} {w w' : World} {v : Value} {xs : List Int} (h : RowAt B w v xs) (hb : Below B w w') : RowAt B w' v xs := by
  rcases h.lies with h1 | ⟨b, off, cap, h1, h2, h3, h4⟩
  · exact ⟨.inl h1⟩
  · exact ⟨.inr ⟨b, off, cap, h1, h2, Nat.lt_of_lt_of_le h3 hb.size, fun j x hx => (hb.cell (p := ⟨b, off + j, none⟩) h2).trans (h4 j x hx)⟩⟩
structure OutsAt (B : Nat) (w : World) (b off cap : Nat) (outs : List (List Int)) : Prop where
  low : b < B
  lt : b < w.heap.size
  rows : ∀ i xs, outs[i]? = some xs → ∃ v, w.cell? ⟨b, off + i, none⟩ = some v ∧ RowAt B w v xs
theorem OutsAt.below {B : Nat} {w w' : World} {b off cap : Nat} {outs : List (List Int)} (h : OutsAt B w b off cap outs) (hb : Below B w w') : OutsAt B w' b off cap outs :=
  ⟨h.low, Nat.lt_of_lt_of_le h.lt hb.size, fun i xs hi => by
    obtain ⟨v, h1, h2⟩ := h.rows i xs hi
    exact ⟨v, (hb.cell (p := ⟨b, off + i, none⟩) h.low).trans h1, h2.below hb⟩⟩
end Go.Proofs.Ytipongpgmbhpkaa
