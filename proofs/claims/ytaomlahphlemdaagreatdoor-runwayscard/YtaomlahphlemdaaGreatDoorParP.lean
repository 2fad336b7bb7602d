/-
  The parser: expressions, whatever the tokens are.
-/
import Derived.Test.YtaomlahphlemdaaGreatDoorParOa
import Derived.Test.YtaomlahphlemdaaGreatDoorParOb
import Derived.Test.YtaomlahphlemdaaGreatDoorParOc
namespace Go.Proofs.YtaomlahphlemdaaGreatDoor
open Go.ChangeShapes Go.WideShapes Go.ChangeAt Go.RowKit
set_option linter.unusedVariables false

theorem operand_fine {u : Par} (hf : ∀ n, Fine n u) (s : St) : (pOperand u s).2.deep = s.deep ∧ (pOperand u s).2.left.length ≤ s.left.length := by
  have h1 := s.enter_fine
  have h2 := s.enter.next_fine
  have h3 := hf s.enter.next.left.length s.enter.next (Nat.le_refl _)
  unfold pOperand St.leave
  exact ⟨by simp only; rw [h3.1, h2.1, h1.1]; omega, by simp only; omega⟩
theorem exprOf_fine {u : Par} (hf : ∀ n, Fine n u) (n : Nat) : Fine n (pExprOf u) :=
  expr_fine (chain_fine (rel_fine (chain_fine (chain_fine (hf n) termMarks) sumMarks)) andMarks)
theorem unaryStep_fine {u : Par} (hf : ∀ n, Fine n u) (n : Nat) : Fine n (unaryStep u) := fun s h => by
  have h1 := operand_fine hf s
  have h2 := s.next_fine
  have h3 := exprOf_fine hf s.next.left.length s.next (Nat.le_refl _)
  have h4 := (pExprOf u s.next).2.must_fine [41]
  have h5 := named_fine (exprOf_fine hf s.next.left.length) s.now s.next (Nat.le_refl _)
  have h6 := s.fail_fine 12 s.now.line s.now.col
  unfold unaryStep
  repeat' split
  · exact h1
  · exact h1
  · exact ⟨by simp only; rw [h4.1, h3.1, h2.1], by simp only; omega⟩
  · exact h2
  · exact h2
  · exact h2
  · exact ⟨by rw [h5.1, h2.1], by omega⟩
  · exact h6
theorem pUnary_fine : ∀ k n, Fine n (pUnary k)
  | 0, n => fun s h => ⟨rfl, Nat.le_refl _⟩
  | k + 1, n => unaryStep_fine (pUnary_fine k) n

theorem exprOk_of {R g n : Nat} {u : Par} (hp : ParOk R g n 147 u) (hf : ∀ n, Fine n u) : ExprOk R g n (pAndOf u) := by
  have h1 : Fine n (pTerm u) := chain_fine (hf n) termMarks
  have h2 : Fine n (pSum u) := chain_fine h1 sumMarks
  have h3 : Fine n (pRel (pSum u)) := rel_fine h2
  have p1 : ParOk R g n 146 (pTerm u) := term_any hp (hf n)
  have p2 : ParOk R g n 144 (pSum u) := sum_any p1 h1
  have p3 : ParOk R g n 141 (pRel (pSum u)) := rel_any p2 h2
  have p4 : ParOk R g n 139 (pAndOf u) := and_any p3 h3
  exact expr_any p4 (chain_fine h3 andMarks)

theorem unary_all (R g : Nat) : ∀ n, ParOk R g n 147 (pUnary n)
  | 0 => fun s w hl hd h => by
    have := h.last.ne
    exact absurd (List.eq_nil_of_length_eq_zero (by omega)) this
  | n + 1 => fun s w hl hd h => by
    have hp := unary_all R g n
    have hf := pUnary_fine n
    have he := exprOk_of hp hf
    have hef := exprOf_fine hf n
    show Calls Tryz.prog 147 #[.pointer (some ⟨R, 0, none⟩)] w (ExPost R g (unaryStep (pUnary n) s) w)
    cases ht : s.now with
    | mk kd tx nm ln cl =>
      by_cases h1 : tx = [33]
      · subst h1; exact unary_not hp (hf n) s w hl hd h kd nm ln cl ht
      by_cases h2 : tx = [45]
      · subst h2; exact unary_minus hp (hf n) s w hl hd h kd nm ln cl ht
      by_cases h3 : tx = [40]
      · subst h3; exact unary_paren he s w hl hd h kd nm ln cl ht
      by_cases h4 : tx = [116, 114, 117, 101]
      · subst h4; exact unary_true s w hl hd h kd nm ln cl ht
      by_cases h5 : tx = [102, 97, 108, 115, 101]
      · subst h5; exact unary_false s w hl hd h kd nm ln cl ht
      by_cases h6 : kd = 2
      · subst h6; exact unary_num s w hl hd h tx nm ln cl ht h1 h2 h3 h4 h5
      by_cases h7 : kd = 1
      · subst h7; exact unary_name he hef s w hl hd h tx nm ln cl ht h1 h2 h3 h4 h5
      exact unary_none s w hl hd h kd tx nm ln cl ht h1 h2 h3 h4 h5 h6 h7

/-- An expression of a reader, with as much fuel as tokens. -/
def exprL (n : Nat) : Par := pExprOf (pUnary n)
theorem expr_all (R g n : Nat) : ExprOk R g n (pAndOf (pUnary n)) := exprOk_of (unary_all R g n) (pUnary_fine n)
theorem exprL_fine (k n : Nat) : Fine n (exprL k) := exprOf_fine (pUnary_fine k) n
end Go.Proofs.YtaomlahphlemdaaGreatDoor
