/-
  The texts of ParseChains, and what the parser says of them.
-/
import Derived.Test.YtgnnendcgbijnaaDoorNestB
namespace Go.Proofs.YtgnnendcgbijnaaDoor
open Go.ChangeShapes Go.WideShapes Go.ChangeAt Go.RowKit
set_option linter.unusedVariables false

def Sm.does : Sm → Int | .mk d _ _ _ _ _ _ => d
/-- A chain of so many further choices, with a last block or without. -/
def ChainOk : Nat → Bool → Sm → Prop
  | 0, last, .mk does _ _ _ es thn els => does = 4 ∧ es.length = 1 ∧ thn.length = 1 ∧ ((last = true ∧ ∃ sm, els = [sm] ∧ sm.does = 2) ∨ (last = false ∧ els = []))
  | n + 1, last, .mk does _ _ _ es thn els => does = 4 ∧ es.length = 1 ∧ thn.length = 1 ∧ ∃ sm, els = [sm] ∧ ChainOk n last sm
def eqS : Sh := (4, [61, 61], 0)
theorem expr_eq {f : Nat} {s : St} {c : UInt8} {v : Int} {x : Sh} {sh : List Sh} {d : Int} (hc : c = 49 ∨ c = 48 ∨ c = 50) (h : Tk s ((1, [97], 0) :: eqS :: (2, [c], v) :: x :: sh) d 0) (hd : d < 200) (hx : x.2.1 ∉ allMarks) : ∃ e s', exprL (f + 1) s = (e, s') ∧ Tk s' (x :: sh) d 0 := by
  simp only [allMarks, List.mem_append, not_or] at hx
  obtain ⟨⟨⟨⟨h1, h2⟩, h3⟩, h4⟩, h5⟩ := hx
  obtain ⟨l, k, e1, k1⟩ := var_at (u := pUnary f) (.inl rfl) (by decide) (h.enter hd)
  have e2 : pTerm (pUnary (f + 1)) s.enter = (.mk 3 l k 0 [97] 0 [], s.enter.next) := chain_pass e1 k1 (by decide)
  have e3 : pSum (pUnary (f + 1)) s.enter = (.mk 3 l k 0 [97] 0 [], s.enter.next) := chain_pass e2 k1 (by decide)
  have k2 := k1.next (show (4 : Int) ≠ 0 by decide)
  obtain ⟨en, e4, k3⟩ := num_at (u := pUnary f) hc k2
  have e5 : pTerm (pUnary (f + 1)) s.enter.next.next = (en, s.enter.next.next.next) := chain_pass e4 k3 h1
  have e6 : pSum (pUnary (f + 1)) s.enter.next.next = (en, s.enter.next.next.next) := chain_pass e5 k3 h2
  have e7 : pRel (pSum (pUnary (f + 1))) s.enter = (joinedL s.enter.next.now (.mk 3 l k 0 [97] 0 []) en, s.enter.next.next.next) := by
    unfold pRel
    rw [e3]
    dsimp only
    rw [if_pos ((k1.sees relMarks).trans (by decide)), e6]
  have e8 : pAndOf (pUnary (f + 1)) s.enter = _ := chain_pass e7 k3 h4
  have e9 : chainL (pAndOf (pUnary (f + 1))) orMarks s.enter = _ := chain_pass e8 k3 h5
  have k4 := k3.leave
  rw [show d + 1 - 1 = d by omega] at k4
  refine ⟨joinedL s.enter.next.now (.mk 3 l k 0 [97] 0 []) en, s.enter.next.next.next.leave, ?_, k4⟩
  show ((chainL (pAndOf (pUnary (f + 1))) orMarks s.enter).1, (chainL (pAndOf (pUnary (f + 1))) orMarks s.enter).2.leave) = _
  rw [e9]
def setS (c : UInt8) (v : Int) : List Sh := [(1, [120], 0), mk 61, (2, [c], v), mk 59, mk 125]
theorem setter_block {f : Nat} {s : St} {c : UInt8} {v : Int} {sh : List Sh} {d : Int} (hc : c = 49 ∨ c = 48 ∨ c = 50) (h : Tk s (mk 123 :: (setS c v ++ sh)) d 0) (hd : d + 1 < 200) : ∃ sm s', (stepsL (f + 2)).1 s = ([sm], s') ∧ Tk s' sh d 0 ∧ sm.does = 2 := by
  have hi := blockIn_at h (by omega)
  obtain ⟨l, k, e1, k1⟩ := var_at (u := pUnary f) (.inr rfl) (by decide) (hi.enter hd)
  have e2 : exprL (f + 1) (blockIn s) = (.mk 3 l k 0 [120] 0 [], (blockIn s).enter.next.leave) := expr_pass (u := pUnary (f + 1)) e1 k1 (by decide)
  have k2 := k1.leave
  rw [show d + 1 + 1 - 1 = d + 1 by omega] at k2
  have k3 := k2.next (show (4 : Int) ≠ 0 by decide)
  obtain ⟨en, e4, k4⟩ := num_at (u := pUnary f) hc (k3.enter hd)
  have e5 : exprL (f + 1) (blockIn s).enter.next.leave.next = (en, (blockIn s).enter.next.leave.next.enter.next.leave) := expr_pass (u := pUnary (f + 1)) e4 k4 (by decide)
  have k5 := k4.leave
  rw [show d + 1 + 1 - 1 = d + 1 by omega] at k5
  have k6 := k5.must (show (4 : Int) ≠ 0 by decide)
  have e3 : stmtOf (exprL (f + 1)) (stepsL (f + 1)).1 (stepsL (f + 1)).2 (blockIn s) = (.mk 2 (blockIn s).now.line (blockIn s).now.col [120] [en] [] [], (blockIn s).enter.next.leave.next.enter.next.leave.must [59]) := by
    unfold stmtOf pStmt
    rw [hi.now.2.1, if_neg (by decide), if_neg (by decide), if_neg (by decide), if_neg (by decide)]
    unfold pPlain
    rw [e2]
    dsimp only
    rw [if_neg (show ¬ (Ex.mk 3 l k 0 [120] 0 []).kind = 5 from fun q => absurd q (show ¬ (3 : Int) = 5 by decide)), if_pos ⟨rfl, (k2.sees _).trans (by decide)⟩, e5]
    rfl
  obtain ⟨s9, e9, k9⟩ := block_one h (by omega) (by decide) e3 k6
  refine ⟨.mk 2 (blockIn s).now.line (blockIn s).now.col [120] [en] [] [], s9, ?_, k9, rfl⟩
  rw [stepsL_succ]
  exact e9
def ifS (c : UInt8) (v : Int) : List Sh := (3, ifL, 0) :: (1, [97], 0) :: eqS :: (2, [c], v) :: mk 123 :: setS c v
def elseIf : List Sh := (3, elseL, 0) :: ifS 49 1
def lastS (last : Bool) : List Sh := if last then (3, elseL, 0) :: mk 123 :: setS 50 2 else []
theorem chain_at (last : Bool) : ∀ (n f : Nat) (s : St) (c : UInt8) (v : Int) (sh : List Sh) (d : Int), c = 49 ∨ c = 48 ∨ c = 50 → n ≤ f → Tk s (ifS c v ++ (rep n elseIf ++ (lastS last ++ mk 125 :: sh))) d 0 → d + n + 2 < 200 → ∃ sm s', (stepsL (f + 2)).2 s = (sm, s') ∧ Tk s' (mk 125 :: sh) d 0 ∧ ChainOk n last sm
  | n, f, s, c, v, sh, d, hc, hf, h, hd => by
    have h1 := h.next (show (3 : Int) ≠ 0 by decide)
    obtain ⟨e, s1, e1, k1⟩ := expr_eq (f := f + 1) hc h1 (by omega) (by decide)
    obtain ⟨sm, s2, e2, k2, hs2⟩ := setter_block (f := f) hc k1 (by omega)
    rw [stepsL_succ]
    rw [stepsL_succ] at e2
    dsimp only at e2 ⊢
    unfold pChoice
    rw [e1]
    dsimp only
    rw [e2]
    dsimp only
    cases n with
    | zero =>
      cases last with
      | false =>
        have k3 : Tk s2 (mk 125 :: sh) d 0 := k2
        rw [if_neg (by rw [k3.sees]; decide)]
        exact ⟨_, _, rfl, k3, rfl, rfl, rfl, .inr ⟨rfl, rfl⟩⟩
      | true =>
        have k3 : Tk s2 ((3, elseL, 0) :: mk 123 :: (setS 50 2 ++ mk 125 :: sh)) d 0 := k2
        rw [if_pos (by rw [k3.sees]; decide)]
        have k4 := k3.next (show (3 : Int) ≠ 0 by decide)
        obtain ⟨sm3, s3, e3, k5, hs3⟩ := setter_block (f := f) (c := 50) (.inr (.inr rfl)) k4 (by omega)
        rw [stepsL_succ] at e3
        dsimp only at e3
        have e4 : pOther (pBlock (stmtOf (exprL (f + 1)) (stepsL (f + 1)).1 (stepsL (f + 1)).2)) (stepsL (f + 1)).2 s2.next = ([sm3], s3) := by
          unfold pOther
          rw [if_neg (by rw [k4.sees]; decide), e3]
        rw [e4]
        exact ⟨_, _, rfl, k5, rfl, rfl, rfl, .inl ⟨rfl, sm3, rfl, hs3⟩⟩
    | succ n =>
      have k3 : Tk s2 ((3, elseL, 0) :: (ifS 49 1 ++ (rep n elseIf ++ (lastS last ++ mk 125 :: sh)))) d 0 := by rw [rep_succ] at k2; simpa [elseIf] using k2
      rw [if_pos (by rw [k3.sees]; decide)]
      have k4 := k3.next (show (3 : Int) ≠ 0 by decide)
      obtain ⟨f, rfl⟩ : ∃ f', f = f' + 1 := ⟨f - 1, by omega⟩
      obtain ⟨sm3, s3, e3, k5, hs3⟩ := chain_at last n f s2.next.enter 49 1 sh (d + 1) (.inl rfl) (by omega) (k4.enter (by omega)) (by omega)
      have e4 : pOther (pBlock (stmtOf (exprL (f + 1 + 1)) (stepsL (f + 1 + 1)).1 (stepsL (f + 1 + 1)).2)) (stepsL (f + 1 + 1)).2 s2.next = ([sm3], s3.leave) := by
        unfold pOther
        rw [if_pos ((k4.sees _).trans (by decide)), e3]
      rw [e4]
      have k6 := k5.leave
      rw [show d + 1 - 1 = d by omega] at k6
      exact ⟨_, _, rfl, k6, rfl, rfl, rfl, sm3, rfl, hs3⟩
termination_by n => n
def OneChain (n : Nat) (last : Bool) (l : List Sm) : Prop := ∃ sm, l = [sm] ∧ ChainOk n last sm
theorem chain_block {last : Bool} {n f : Nat} {s : St} {sh : List Sh} (hf : n ≤ f) (hn : n < 64) (h : Tk s (mk 123 :: (ifS 48 0 ++ (rep n elseIf ++ (lastS last ++ mk 125 :: sh)))) 0 0) : ∃ l s', (stepsL (f + 3)).1 s = (l, s') ∧ Tk s' sh 0 0 ∧ OneChain n last l := by
  have hi := blockIn_at h (by decide)
  obtain ⟨sm, s1, e1, k1, q1⟩ := chain_at last n f (blockIn s) 48 0 sh 1 (.inr (.inl rfl)) hf hi (by omega)
  have e3 : stmtOf (exprL (f + 2)) (stepsL (f + 2)).1 (stepsL (f + 2)).2 (blockIn s) = (sm, s1) := by
    unfold stmtOf pStmt
    rw [hi.now.2.1, if_neg (by decide), if_pos (by rfl), e1]
  obtain ⟨s9, e9, k9⟩ := block_one h (by decide) (by decide) e3 k1
  refine ⟨[sm], s9, ?_, k9, ⟨sm, rfl, q1⟩⟩
  rw [stepsL_succ]
  exact e9
def chFirst : List UInt8 := [102, 117, 110, 99, 32, 102, 40, 41, 32, 123, 32, 105, 102, 32, 97, 32, 61, 61, 32, 48, 32, 123, 32, 120, 32, 61, 32, 48, 59, 32, 125]
def chElse : List UInt8 := [32, 101, 108, 115, 101, 32, 105, 102, 32, 97, 32, 61, 61, 32, 49, 32, 123, 32, 120, 32, 61, 32, 49, 59, 32, 125]
def chLast : List UInt8 := [32, 101, 108, 115, 101, 32, 123, 32, 120, 32, 61, 32, 50, 59, 32, 125]
def chainText (n : Nat) (last : Bool) : List UInt8 := chFirst ++ rep n chElse ++ (if last then chLast else []) ++ fnEnd
theorem chFirst_cut : Cuts chFirst (fHead ++ mk 123 :: ifS 48 0) := (tok_cut (c := 102) (x := [117, 110, 99]) 3 0 (fun r => ⟨rfl, rfl⟩) (blank_cut (tok_cut (c := 102) (x := []) 1 0 (fun r => ⟨rfl, rfl⟩) (mark_cut (by decide) (mark_cut (by decide) (blank_cut (mark_cut (by decide) (blank_cut (tok_cut (c := 105) (x := [102]) 3 0 (fun r => ⟨rfl, rfl⟩) (blank_cut (tok_cut (c := 97) (x := []) 1 0 (fun r => ⟨rfl, rfl⟩) (blank_cut (tok_cut (c := 61) (x := [61]) 4 0 (fun r => ⟨rfl, rfl⟩) (blank_cut (tok_cut (c := 48) (x := []) 2 0 (fun r => ⟨rfl, rfl⟩) (blank_cut (mark_cut (by decide) (blank_cut (tok_cut (c := 120) (x := []) 1 0 (fun r => ⟨rfl, rfl⟩) (blank_cut (tok_cut (c := 61) (x := []) 4 0 (fun r => ⟨rfl, rfl⟩) (blank_cut (tok_cut (c := 48) (x := []) 2 0 (fun r => ⟨rfl, rfl⟩) (mark_cut (by decide) (blank_cut (mark_cut (by decide) Cuts.nil))))))))))))))))))))))))))
theorem chElse_cut : Cuts chElse elseIf := (blank_cut (tok_cut (c := 101) (x := [108, 115, 101]) 3 0 (fun r => ⟨rfl, rfl⟩) (blank_cut (tok_cut (c := 105) (x := [102]) 3 0 (fun r => ⟨rfl, rfl⟩) (blank_cut (tok_cut (c := 97) (x := []) 1 0 (fun r => ⟨rfl, rfl⟩) (blank_cut (tok_cut (c := 61) (x := [61]) 4 0 (fun r => ⟨rfl, rfl⟩) (blank_cut (tok_cut (c := 49) (x := []) 2 1 (fun r => ⟨rfl, rfl⟩) (blank_cut (mark_cut (by decide) (blank_cut (tok_cut (c := 120) (x := []) 1 0 (fun r => ⟨rfl, rfl⟩) (blank_cut (tok_cut (c := 61) (x := []) 4 0 (fun r => ⟨rfl, rfl⟩) (blank_cut (tok_cut (c := 49) (x := []) 2 1 (fun r => ⟨rfl, rfl⟩) (mark_cut (by decide) (blank_cut (mark_cut (by decide) Cuts.nil)))))))))))))))))))))
theorem chLast_cut : Cuts chLast (lastS true) := (blank_cut (tok_cut (c := 101) (x := [108, 115, 101]) 3 0 (fun r => ⟨rfl, rfl⟩) (blank_cut (mark_cut (by decide) (blank_cut (tok_cut (c := 120) (x := []) 1 0 (fun r => ⟨rfl, rfl⟩) (blank_cut (tok_cut (c := 61) (x := []) 4 0 (fun r => ⟨rfl, rfl⟩) (blank_cut (tok_cut (c := 50) (x := []) 2 2 (fun r => ⟨rfl, rfl⟩) (mark_cut (by decide) (blank_cut (mark_cut (by decide) Cuts.nil)))))))))))))
theorem chain_cut (n : Nat) (last : Bool) : Cuts (chainText n last) (fHead ++ (mk 123 :: (ifS 48 0 ++ (rep n elseIf ++ (lastS last ++ [mk 125]))))) := by
  have h : Cuts (if last then chLast else []) (lastS last) := by
    cases last
    · exact Cuts.nil
    · exact chLast_cut
  have := ((chFirst_cut.append (chElse_cut.rep n)).append h).append fnEnd_cut
  simpa [chainText] using this
theorem chain_parse (n : Nat) (last : Bool) (hn : n < 64) : ∃ fn, parseL (chainText n last) = (⟨[], [fn]⟩, (0, 0, 0)) ∧ OneChain n last fn.body := by
  obtain ⟨ts, hl, hs⟩ := lex_of (chain_cut n last)
  have hs' : ts.map er = fHead ++ (mk 123 :: (ifS 48 0 ++ (rep n elseIf ++ (lastS last ++ mk 125 :: [(0, [], 0)])))) := by rw [hs]; simp
  have hlen : ts.length = (fHead ++ (mk 123 :: (ifS 48 0 ++ (rep n elseIf ++ (lastS last ++ mk 125 :: [(0, [], 0)]))))).length := by rw [← hs']; simp
  have hN : ∃ f, ts.length = f + 3 ∧ n ≤ f := by
    refine ⟨ts.length - 3, ?_, ?_⟩ <;> rw [hlen] <;> simp [rep_length, fHead, ifS, elseIf, setS] <;> omega
  obtain ⟨f, hN, hf⟩ := hN
  obtain ⟨fn, s', e1, e2, e3, _⟩ := prog_ok (P := OneChain n last) hs' (fun b k1 => by
    rw [hN]
    exact chain_block hf hn k1)
  exact ⟨fn, parse_ok hl e1 e2, e3⟩
end Go.Proofs.YtgnnendcgbijnaaDoor
