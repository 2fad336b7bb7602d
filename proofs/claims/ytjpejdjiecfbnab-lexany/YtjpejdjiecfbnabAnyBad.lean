/-
  LexAny: where the lexer answers an error: the law is true.
-/
import Derived.Test.YtjpejdjiecfbnabAnyGap
namespace Go.Proofs.Ytjpejdjiecfbnab.lexAny
open Go.ChangeShapes Go.WideShapes Go.ChangeAt Go.RowKit
set_option linter.unusedVariables false

theorem err_is (l : List UInt8) (h : (tokL l).err ≠ 0) : (tokL l).err = 10 ∨ (tokL l).err = 11 := by
  cases l with
  | nil => left; rfl
  | cons c r =>
    by_cases hl : letterB (c.toNat : Int) = true
    · rw [tokL_letter rfl hl] at h; simp at h
    · have hl' : letterB (c.toNat : Int) = false := by simpa using hl
      by_cases hd : digitB (c.toNat : Int) = true
      · cases hq : numL 0 ((c :: r).take (spanL digitB (c :: r))) with
        | none => rw [tokL_none rfl hl' hd hq]; right; rfl
        | some v => rw [tokL_some rfl hl' hd hq] at h; simp at h
      · have hd' : digitB (c.toNat : Int) = false := by simpa using hd
        by_cases hm : 0 < markL (c :: r)
        · rw [tokL_mark rfl hl' hd' hm] at h; simp at h
        · rw [tokL_sign rfl hl' hd' hm]; left; rfl

theorem errs3 : ∀ (l : List UInt8) (d : Nat) (line col : Int) (acc : List Tok) (x : Int × Int × Int), 1 ≤ line → 1 ≤ col → goL l d line col acc = .error x → (x.1 = 10 ∨ x.1 = 11) ∧ 1 ≤ x.2.1 ∧ 1 ≤ x.2.2 := by
  intro l
  induction l with
  | nil => intro d line col acc x _ _ h; rw [goL] at h; cases h
  | cons c r ih =>
    intro d line col acc x h1 h2 h
    have h3 : 1 ≤ lineB line c := by unfold lineB; split <;> omega
    have h4 : 1 ≤ colB col c := by unfold colB; split <;> omega
    cases d with
    | succ d => rw [goL] at h; exact ih _ _ _ _ _ h3 h4 h
    | zero =>
      rw [goL] at h
      split at h
      · split at h
        · exact ih _ _ _ _ _ h3 h4 h
        · rename_i he
          injection h with h
          subst h
          exact ⟨err_is _ he, h1, h2⟩
      · exact ih _ _ _ _ _ h3 h4 h

set_option maxHeartbeats 1000000 in
theorem any_bad (s : ByteArray) (h : s.size ≤ 500) (a b c : Int) (ha : a = 10 ∨ a = 11) (hb : 1 ≤ b) (hc : 1 ≤ c) (he : lexL s.data.toList = .error (a, b, c)) (w : World) :
    Calls Try.prog 3 #[.string s] w fun e w' => e = .returned (.bool true) ∧ Below w.heap.size w w' := by
  have HE := Lib.hid he
  clear he
  go_enter Try.func3, Try.ntmps3
  go_wp2_with (fail)
  refine (head_any _).mono ?_; rintro e w1 ⟨rfl, hb1⟩
  have hc1 := hb1.cell (p := ⟨w.heap.size, 0, none⟩) (by simp)
  have hz1 : w.heap.size < w1.heap.size := by have := hb1.size; simp at this; omega
  go_wp2_with (fail)
  refine (all_bad _ (by omega) a b c HE.out _).mono ?_; rintro e w2 ⟨rfl, hb2⟩
  have hc2 := hb2.cell (p := ⟨w.heap.size, 0, none⟩) hz1
  have hz2 : w.heap.size < w2.heap.size := by have := hb2.size; omega
  have HB : Below w.heap.size w w2 := (((Below.refl _ w).alloc (Nat.le_refl _) _).trans (hb1.mono (by simp))).trans (hb2.mono (by omega))
  rcases ha with rfl | rfl
  all_goals (go_wp2_with (fail))
  all_goals go_ret
  all_goals (refine ⟨rfl, ?_⟩)
  all_goals (repeat (first | exact HB | apply Below.drew | (refine Below.alloc ?_ (by first | omega | (simp; done) | (simp; omega)) _) | (refine Below.setCell ?_ (by first | omega | (simp; done) | (simp; omega)) _)))

set_option maxHeartbeats 1000000 in
theorem any_big (s : ByteArray) (h : ¬ s.size ≤ 500) (hm : s.size ≤ maxLen) (w : World) :
    Calls Try.prog 3 #[.string s] w fun e w' => e = .returned (.bool true) ∧ Below w.heap.size w w' := by
  go_enter Try.func3, Try.ntmps3
  go_wp2_with (fail)
  refine (head_any _).mono ?_; rintro e w1 ⟨rfl, hb1⟩
  have hc1 := hb1.cell (p := ⟨w.heap.size, 0, none⟩) (by simp)
  have HB : Below w.heap.size w w1 := ((Below.refl _ w).alloc (Nat.le_refl _) _).trans (hb1.mono (by simp))
  go_wp2_with (fail)
  go_ret
  exact ⟨rfl, HB⟩
end Go.Proofs.Ytjpejdjiecfbnab.lexAny
