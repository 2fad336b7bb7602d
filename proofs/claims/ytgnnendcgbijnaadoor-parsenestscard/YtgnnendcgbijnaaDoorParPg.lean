/-
  The parser: behind a fault the end alone is left; a statement takes a token, or is a fault.
-/
import Derived.Test.YtgnnendcgbijnaaDoorParP
namespace Go.Proofs.YtgnnendcgbijnaaDoor
open Go.ChangeShapes Go.WideShapes Go.ChangeAt Go.RowKit
set_option linter.unusedVariables false

/-- Behind a fault no more than one token is left. -/
def Good (s : St) : Prop := s.err ≠ 0 → s.left.length ≤ 1
theorem St.next_good {s : St} (h : Good s) : Good s.next := by
  unfold St.next; split
  · exact h
  · intro he; have := h he; simp; omega
theorem St.fail_good {s : St} (h : Good s) (e l c : Int) : Good (s.fail e l c) := by
  unfold St.fail; split
  · intro he; simp only [List.length_drop]; omega
  · exact h
theorem St.enter_good {s : St} (h : Good s) : Good s.enter := by
  unfold St.enter; simp only; split
  · exact St.fail_good h _ _ _
  · exact h
theorem St.leave_good {s : St} (h : Good s) : Good s.leave := h
theorem St.must_good {s : St} (h : Good s) (x : List UInt8) : Good (s.must x) := by
  unfold St.must; split
  · exact St.next_good h
  · exact St.fail_good h _ _ _
theorem St.want_good {s : St} (h : Good s) (k : Int) : Good (s.want k).2 := by
  unfold St.want; split
  · exact St.next_good h
  · exact St.fail_good h _ _ _
def GoodP (part : Par) : Prop := ∀ s : St, Good s → Good (part s).2
theorem chainLoop_good {part : Par} (hp : GoodP part) (xs : List (List UInt8)) : ∀ (k : Nat) (e : Ex) (s : St), Good s → Good (chainLoop part xs k e s).2
  | 0, e, s, h => h
  | k + 1, e, s, h => by
    rw [chainLoop]; split
    · exact chainLoop_good hp xs k _ _ (hp _ (St.next_good h))
    · exact h
theorem chain_good {part : Par} (hp : GoodP part) (xs : List (List UInt8)) : GoodP (chainL part xs) := fun s h => chainLoop_good hp xs _ _ _ (hp s h)
theorem rel_good {part : Par} (hp : GoodP part) : GoodP (pRel part) := fun s h => by
  unfold pRel; split
  · exact hp _ (St.next_good (hp s h))
  · exact hp s h
theorem expr_good {part : Par} (hp : GoodP part) : GoodP (pExpr part) := fun s h => St.leave_good (chain_good hp _ _ (St.enter_good h))
theorem argsLoop_good {part : Par} (hp : GoodP part) : ∀ (k : Nat) (e : List Ex) (s : St), Good s → Good (argsLoop part k e s).2
  | 0, e, s, h => h
  | k + 1, e, s, h => by
    rw [argsLoop]; split
    · exact argsLoop_good hp k _ _ (hp _ (St.next_good h))
    · exact h
theorem args_good {part : Par} (hp : GoodP part) {s : St} (h : Good s) : Good (pArgs part s).2 := argsLoop_good hp _ _ _ (hp s h)
theorem named_good {part : Par} (hp : GoodP part) (t : Tok) : GoodP (pNamed part t) := fun s h => by
  have h1 := St.next_good h
  unfold pNamed; split
  · exact St.must_good (hp _ h1) _
  · split
    · split
      · exact St.must_good h1 _
      · exact St.must_good (args_good hp h1) _
    · exact h
theorem operand_good {u : Par} (hp : GoodP u) : GoodP (pOperand u) := fun s h => St.leave_good (hp _ (St.next_good (St.enter_good h)))
theorem exprOf_good {u : Par} (hp : GoodP u) : GoodP (pExprOf u) := expr_good (chain_good (rel_good (chain_good (chain_good hp _) _)) _)
theorem unaryStep_good {u : Par} (hp : GoodP u) : GoodP (unaryStep u) := fun s h => by
  have h1 := St.next_good h
  have h2 := operand_good hp s h
  have h3 := St.must_good (exprOf_good hp _ h1) [41]
  have h4 := named_good (exprOf_good hp) s.now _ h1
  have h5 := St.fail_good h 12 s.now.line s.now.col
  unfold unaryStep
  repeat' split
  · exact h2
  · exact h2
  · exact h3
  · exact h1
  · exact h1
  · exact h1
  · exact h4
  · exact h5
theorem pUnary_good : ∀ k, GoodP (pUnary k)
  | 0 => fun s h => h
  | k + 1 => unaryStep_good (pUnary_good k)
theorem exprL_good (k : Nat) : GoodP (exprL k) := exprOf_good (pUnary_good k)

/-- It takes a token, or is a fault: fewer are left. -/
def Quick (part : Par) : Prop := ∀ s : St, Good s → 2 ≤ s.left.length → s.now.kind ≠ 0 → (part s).2.left.length < s.left.length
theorem St.next_lt {s : St} (h : 2 ≤ s.left.length) (hk : s.now.kind ≠ 0) : s.next.left.length < s.left.length := by
  unfold St.next; rw [if_neg hk]; simp; omega
theorem St.fail_lt {s : St} (hg : Good s) (h : 2 ≤ s.left.length) (e l c : Int) : (s.fail e l c).left.length < s.left.length := by
  have he : s.err = 0 := by
    by_cases he : s.err = 0
    · exact he
    · have := hg he; omega
  unfold St.fail; rw [if_pos he]; simp; omega
theorem St.enter_or {s : St} (hg : Good s) (h : 2 ≤ s.left.length) : s.enter.left.length < s.left.length ∨ s.enter.left = s.left := by
  unfold St.enter; simp only; split
  · exact .inl (St.fail_lt hg h _ _ _)
  · exact .inr rfl
theorem operand_quick {u : Par} (hf : ∀ n, Fine n u) : Quick (pOperand u) := fun s hg h hk => by
  have h3 := hf s.enter.next.left.length s.enter.next (Nat.le_refl _)
  have h2 := s.enter.next_fine
  show (u s.enter.next).2.left.length < _
  rcases St.enter_or hg h with h1 | h1
  · omega
  · have : s.enter.next.left.length < s.enter.left.length := St.next_lt (by rw [h1]; exact h) (by unfold St.now; rw [h1]; exact hk)
    rw [h1] at this; omega
theorem unaryStep_quick {u : Par} (hf : ∀ n, Fine n u) : Quick (unaryStep u) := fun s hg h hk => by
  have h1 := operand_quick hf s hg h hk
  have h2 := St.next_lt h hk
  have h3 := exprOf_fine hf s.next.left.length s.next (Nat.le_refl _)
  have h4 := (pExprOf u s.next).2.must_fine [41]
  have h5 := named_fine (exprOf_fine hf s.next.left.length) s.now s.next (Nat.le_refl _)
  have h6 := St.fail_lt hg h 12 s.now.line s.now.col
  unfold unaryStep
  repeat' split
  · exact h1
  · exact h1
  · simp only; omega
  · exact h2
  · exact h2
  · exact h2
  · omega
  · exact h6
theorem chain_quick {part : Par} (hq : Quick part) (hf : ∀ n, Fine n part) (xs : List (List UInt8)) : Quick (chainL part xs) := fun s hg h hk => by
  have h1 := hq s hg h hk
  have h2 := chainLoop_fine (hf (part s).2.left.length) xs (part s).2.left.length (part s).1 (part s).2 (Nat.le_refl _)
  unfold chainL; omega
theorem rel_quick {part : Par} (hq : Quick part) (hf : ∀ n, Fine n part) : Quick (pRel part) := fun s hg h hk => by
  have h1 := hq s hg h hk
  have h2 := (part s).2.next_fine
  have h3 := hf _ (part s).2.next (Nat.le_refl _)
  unfold pRel; split
  · simp only; omega
  · exact h1
theorem expr_quick {part : Par} (hq : Quick part) (hf : ∀ n, Fine n part) : Quick (pExpr part) := fun s hg h hk => by
  show (chainL part orMarks s.enter).2.left.length < _
  rcases St.enter_or hg h with h1 | h1
  · have h2 := chain_fine (hf s.enter.left.length) orMarks s.enter (Nat.le_refl _)
    omega
  · have := chain_quick hq hf orMarks s.enter (St.enter_good hg) (by rw [h1]; exact h) (by unfold St.now; rw [h1]; exact hk)
    rw [h1] at this; exact this
theorem exprL_quick (k : Nat) : Quick (exprL (k + 1)) := by
  have f0 := pUnary_fine (k + 1)
  have f1 : ∀ n, Fine n (pTerm (pUnary (k + 1))) := fun n => chain_fine (f0 n) termMarks
  have f2 : ∀ n, Fine n (pSum (pUnary (k + 1))) := fun n => chain_fine (f1 n) sumMarks
  have f3 : ∀ n, Fine n (pRel (pSum (pUnary (k + 1)))) := fun n => rel_fine (f2 n)
  have f4 : ∀ n, Fine n (pAndOf (pUnary (k + 1))) := fun n => chain_fine (f3 n) andMarks
  exact expr_quick (chain_quick (rel_quick (chain_quick (chain_quick (unaryStep_quick (pUnary_fine k)) f0 termMarks) f1 sumMarks) f2) f3 andMarks) f4
end Go.Proofs.YtgnnendcgbijnaaDoor
