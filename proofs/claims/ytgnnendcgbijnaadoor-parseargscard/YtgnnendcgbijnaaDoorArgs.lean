/-
  The texts of ParseArgs, and what the parser says of them.
-/
import Derived.Test.YtgnnendcgbijnaaDoorNestB
namespace Go.Proofs.YtgnnendcgbijnaaDoor
open Go.ChangeShapes Go.WideShapes Go.ChangeAt Go.RowKit
set_option linter.unusedVariables false

/-! Globals. -/
def gSh (x : List UInt8) : List Sh := [(3, varL, 0), (1, x, 0), mk 91, (2, [55], 7), mk 93, mk 59]
theorem step_global {blk : St → List Sm × St} {p : Pr} {s : St} {x : List UInt8} {rest : List Sh} (h : Tk s (gSh x ++ rest) 0 0) : ∃ g s', progStep blk p s = (⟨p.globals ++ [g], p.funcs⟩, s') ∧ Tk s' rest 0 0 := by
  have h1 := h.next (show (3 : Int) ≠ 0 by decide)
  obtain ⟨h2, h3⟩ := h1.want (show (1 : Int) ≠ 0 by decide)
  have h4 := h3.next (show (4 : Int) ≠ 0 by decide)
  obtain ⟨h5, h6⟩ := h4.want (show (2 : Int) ≠ 0 by decide)
  have h7 := (h6.must (show (4 : Int) ≠ 0 by decide)).must (show (4 : Int) ≠ 0 by decide)
  have hn : ((letWant s).2.next.want 2).1.num = 7 := by
    unfold St.want
    have h8 : (letWant s).2.next.now.kind = 2 ∧ (letWant s).2.next.now.text = [55] ∧ (letWant s).2.next.now.num = 7 := h4.now
    rw [if_pos h8.1]
    exact h8.2.2
  have hs : (letWant s).2.sees [[91]] = true := (h3.sees [[91]]).trans (by decide)
  have hz : pSize (letWant s).2.next = (7, ((letWant s).2.next.want 2).2) := by
    unfold pSize
    rw [hn, if_neg (by decide)]
  refine ⟨⟨(letWant s).1.text, 0, 7, (letWant s).1.line, (letWant s).1.col⟩, ((((letWant s).2.next.want 2).2).must [93]).must [59], ?_, h7⟩
  unfold progStep
  rw [h.now.2.1, if_pos (by rfl)]
  unfold addG pGlobal
  rw [if_pos hs, hz]
def gsSh (ns : List (List UInt8)) : List Sh := ns.flatMap gSh
theorem prog_globals (blk : St → List Sm × St) : ∀ (ns : List (List UInt8)) (k : Nat) (p : Pr) (s : St) (rest : List Sh), Tk s (gsSh ns ++ rest) 0 0 → ∃ p' s', p'.globals.length = p.globals.length + ns.length ∧ p'.funcs = p.funcs ∧ Tk s' rest 0 0 ∧ progLoop blk (k + ns.length) p s = progLoop blk k p' s'
  | [], k, p, s, rest, h => ⟨p, s, rfl, rfl, h, rfl⟩
  | x :: ns, k, p, s, rest, h => by
    have h' : Tk s (gSh x ++ (gsSh ns ++ rest)) 0 0 := by simpa [gsSh] using h
    obtain ⟨g, s1, e1, k1⟩ := step_global (blk := blk) (p := p) h'
    obtain ⟨p', s', a1, a2, a3, a4⟩ := prog_globals blk ns k ⟨p.globals ++ [g], p.funcs⟩ s1 rest k1
    refine ⟨p', s', by rw [a1]; simp; omega, a2, a3, ?_⟩
    rw [← a4, List.length_cons, ← Nat.add_assoc, progLoop, if_neg (by rw [h'.now.1]; decide), e1]

/-! Parameters. -/
def psSh (ns : List (List UInt8)) : List Sh := ns.flatMap fun x => [mk 44, (1, x, 0)]
theorem ps_length (ns : List (List UInt8)) : (psSh ns).length = 2 * ns.length := by
  induction ns with
  | nil => rfl
  | cons x ns ih =>
    have : psSh (x :: ns) = [mk 44, (1, x, 0)] ++ psSh ns := rfl
    rw [this, List.length_append, ih]
    simp; omega
theorem params_loop : ∀ (ns : List (List UInt8)) (k : Nat) (ps : List (List UInt8)) (s : St) (rest : List Sh) (d e : Int), ns.length ≤ k → Tk s (psSh ns ++ mk 41 :: rest) d e → ∃ ps' s', paramsLoop k ps s = (ps', s') ∧ ps'.length = ps.length + ns.length ∧ Tk s' (mk 41 :: rest) d e
  | [], k, ps, s, rest, d, e, hk, h => by
    refine ⟨ps, s, ?_, rfl, h⟩
    cases k with
    | zero => rfl
    | succ k => rw [paramsLoop, if_neg (by rw [(show Tk s (mk 41 :: rest) d e from h).sees]; decide)]
  | x :: ns, 0, ps, s, rest, d, e, hk, h => by simp at hk
  | x :: ns, k + 1, ps, s, rest, d, e, hk, h => by
    have h' : Tk s (mk 44 :: (1, x, 0) :: (psSh ns ++ mk 41 :: rest)) d e := by simpa [psSh] using h
    have h1 := h'.next (show (4 : Int) ≠ 0 by decide)
    obtain ⟨h2, h3⟩ := h1.want (show (1 : Int) ≠ 0 by decide)
    obtain ⟨ps', s', a1, a2, a3⟩ := params_loop ns k (ps ++ [(s.next.want 1).1.text]) (s.next.want 1).2 rest d e (by simpa using hk) h3
    refine ⟨ps', s', ?_, by rw [a2]; simp; omega, a3⟩
    rw [paramsLoop, if_pos (by rw [h'.sees]; decide), a1]
def paramsSh : List (List UInt8) → List Sh
  | [] => []
  | x :: ns => (1, x, 0) :: psSh ns
theorem step_params {blk : St → List Sm × St} {p : Pr} {s : St} {ns : List (List UInt8)} {body : List Sh} (hns : ∀ x ∈ ns, x ≠ [41]) (h : Tk s ((3, funcL, 0) :: (1, [102], 0) :: mk 40 :: (paramsSh ns ++ mk 41 :: body)) 0 0) :
    ∃ b l c ps, Tk b body 0 0 ∧ ps.length = ns.length ∧ progStep blk p s = (⟨p.globals, p.funcs ++ [⟨[102], ps, (blk b).1, l, c⟩]⟩, (blk b).2) := by
  have h1 := h.next (show (3 : Int) ≠ 0 by decide)
  obtain ⟨h2, h3⟩ := h1.want (show (1 : Int) ≠ 0 by decide)
  have h4 : Tk (fnHead s) (paramsSh ns ++ mk 41 :: body) 0 0 := h3.must (show (4 : Int) ≠ 0 by decide)
  have h7 : (letWant s).1.text = [102] := h2
  unfold progStep
  rw [h.now.2.1, if_neg (by decide), if_neg (by decide), if_neg (by decide), if_pos (by rfl)]
  unfold addF pFunc
  cases ns with
  | nil =>
    have h5 := h4.must (show (4 : Int) ≠ 0 by decide)
    have h6 : (fnHead s).sees [[41]] = true := (h4.sees [[41]]).trans (by decide)
    refine ⟨(fnHead s).must [41], (letWant s).1.line, (letWant s).1.col, [], h5, rfl, ?_⟩
    rw [if_pos h6, h7]
  | cons x ns =>
    have h4' : Tk (fnHead s) ((1, x, 0) :: (psSh ns ++ mk 41 :: body)) 0 0 := h4
    obtain ⟨h8, h9⟩ := h4'.want (show (1 : Int) ≠ 0 by decide)
    have h6 : (fnHead s).sees [[41]] = true → x = [41] := fun q => by
      have := (h4'.sees [[41]]).symm.trans q
      simpa using this
    obtain ⟨ps', s', a1, a2, a3⟩ := params_loop ns ((fnHead s).want 1).2.left.length [((fnHead s).want 1).1.text] ((fnHead s).want 1).2 body 0 0 (by rw [h9.len, List.length_append, ps_length]; omega) h9
    have e1 : pParams (fnHead s) = (ps', s') := a1
    refine ⟨s'.must [41], (letWant s).1.line, (letWant s).1.col, ps', a3.must (show (4 : Int) ≠ 0 by decide), by rw [a2]; simp; omega, ?_⟩
    rw [if_neg (fun q => hns x (by simp) (h6 q)), e1, h7]

/-! Arguments. -/
theorem expr_1 {f : Nat} {s : St} {x : Sh} {sh : List Sh} {d : Int} (h : Tk s (oneS :: x :: sh) d 0) (hd : d < 200) (hx : x.2.1 ∉ allMarks) : ∃ e s', pExprOf (pUnary (f + 1)) s = (e, s') ∧ Tk s' (x :: sh) d 0 := by
  obtain ⟨e, e1, k1⟩ := num_at (u := pUnary f) (.inl rfl) (h.enter hd)
  have e2 := expr_pass (u := pUnary (f + 1)) e1 k1 hx
  have k2 := k1.leave
  rw [show d + 1 - 1 = d by omega] at k2
  exact ⟨_, _, e2, k2⟩
theorem args_loop (f : Nat) : ∀ (j k : Nat) (es : List Ex) (s : St) (rest : List Sh) (d : Int), j ≤ k → d < 200 → Tk s (rep j [mk 44, oneS] ++ mk 41 :: rest) d 0 → ∃ es' s', argsLoop (pExprOf (pUnary (f + 1))) k es s = (es', s') ∧ es'.length = es.length + j ∧ Tk s' (mk 41 :: rest) d 0
  | 0, k, es, s, rest, d, hk, hd, h => by
    refine ⟨es, s, ?_, rfl, h⟩
    cases k with
    | zero => rfl
    | succ k => rw [argsLoop, if_neg (by rw [(show Tk s (mk 41 :: rest) d 0 from h).sees]; decide)]
  | j + 1, 0, es, s, rest, d, hk, hd, h => by omega
  | j + 1, k + 1, es, s, rest, d, hk, hd, h => by
    have h' : Tk s (mk 44 :: oneS :: (rep j [mk 44, oneS] ++ mk 41 :: rest)) d 0 := by rw [rep_succ] at h; simpa using h
    have h1 := h'.next (show (4 : Int) ≠ 0 by decide)
    have h2 : ∃ e s1, pExprOf (pUnary (f + 1)) s.next = (e, s1) ∧ Tk s1 (rep j [mk 44, oneS] ++ mk 41 :: rest) d 0 := by
      cases j with
      | zero => exact expr_1 h1 hd (by decide)
      | succ j =>
        rw [rep_succ] at h1 ⊢
        exact expr_1 h1 hd (by decide)
    obtain ⟨e, s1, e1, k1⟩ := h2
    obtain ⟨es', s', a1, a2, a3⟩ := args_loop f j k (es ++ [e]) s1 rest d (by omega) hd k1
    refine ⟨es', s', ?_, by rw [a2]; simp; omega, a3⟩
    rw [argsLoop, if_pos (by rw [h'.sees]; decide), e1, a1]
def argsSh : Nat → List Sh
  | 0 => []
  | n + 1 => oneS :: rep n [mk 44, oneS]
theorem unary_call {f n : Nat} {s : St} {rest : List Sh} {d : Int} (hd : d < 200) (h : Tk s ((1, [103], 0) :: mk 40 :: (argsSh n ++ mk 41 :: rest)) d 0) : ∃ l c es s', pUnary (f + 2) s = (.mk 5 l c 0 [103] 0 es, s') ∧ es.length = n ∧ Tk s' rest d 0 := by
  have h1 := h.next (show (1 : Int) ≠ 0 by decide)
  have h2 := h1.next (show (4 : Int) ≠ 0 by decide)
  have e1 : s.next.sees [[91]] = false := (h1.sees _).trans (by decide)
  have e2 : s.next.sees [[40]] = true := (h1.sees _).trans (by decide)
  obtain ⟨q1, q2, _⟩ := h.now
  have eu : pUnary (f + 2) s = pNamed (pExprOf (pUnary (f + 1))) s.now s.next := by
    show unaryStep (pUnary (f + 1)) s = _
    unfold unaryStep
    rw [q2, q1]
    simp
  rw [eu]
  unfold pNamed
  rw [e1, e2, q2]
  cases n with
  | zero =>
    have h3 : Tk s.next.next (mk 41 :: rest) d 0 := h2
    have e3 : s.next.next.sees [[41]] = true := (h3.sees _).trans (by decide)
    refine ⟨s.now.line, s.now.col, [], s.next.next.must [41], ?_, rfl, h3.must (show (4 : Int) ≠ 0 by decide)⟩
    simp [e3]
  | succ n =>
    have h3 : Tk s.next.next (oneS :: (rep n [mk 44, oneS] ++ mk 41 :: rest)) d 0 := h2
    have e3 : s.next.next.sees [[41]] = false := (h3.sees _).trans (by decide)
    have h4 : ∃ e s1, pExprOf (pUnary (f + 1)) s.next.next = (e, s1) ∧ Tk s1 (rep n [mk 44, oneS] ++ mk 41 :: rest) d 0 := by
      cases n with
      | zero => exact expr_1 h3 hd (by decide)
      | succ j =>
        rw [rep_succ] at h3 ⊢
        exact expr_1 h3 hd (by decide)
    obtain ⟨e, s1, a1, k1⟩ := h4
    obtain ⟨es', s', b1, b2, b3⟩ := args_loop f n s1.left.length [e] s1 rest d (by rw [k1.len]; simp [rep_length]; omega) hd k1
    have a2 : pArgs (pExprOf (pUnary (f + 1))) s.next.next = (es', s') := by unfold pArgs; rw [a1]; exact b1
    refine ⟨s.now.line, s.now.col, es', s'.must [41], ?_, by rw [b2]; simp; omega, b3.must (show (4 : Int) ≠ 0 by decide)⟩
    simp [e3, a2]
/-- A body of one call. -/
def OneCall (n : Nat) (l : List Sm) : Prop := ∃ a b c d es, l = [.mk 7 a b [] [.mk 5 c d 0 [103] 0 es] [] []] ∧ es.length = n
theorem call_ok {f n : Nat} {s : St} {sh : List Sh} (h : Tk s (mk 123 :: (1, [103], 0) :: mk 40 :: (argsSh n ++ mk 41 :: mk 59 :: mk 125 :: sh)) 0 0) : ∃ l s', (stepsL (f + 3)).1 s = (l, s') ∧ Tk s' sh 0 0 ∧ OneCall n l := by
  have hi := blockIn_at h (by decide)
  obtain ⟨l, c, es, s1, e1, q1, k1⟩ := unary_call (f := f) (show (2 : Int) < 200 by decide) (hi.enter (by decide))
  have e2 : exprL (f + 2) (blockIn s) = (.mk 5 l c 0 [103] 0 es, s1.leave) := expr_pass e1 k1 (by decide)
  have k2 := k1.leave.must (show (4 : Int) ≠ 0 by decide)
  have e3 : stmtOf (exprL (f + 2)) (stepsL (f + 2)).1 (stepsL (f + 2)).2 (blockIn s) = (.mk 7 (blockIn s).now.line (blockIn s).now.col [] [.mk 5 l c 0 [103] 0 es] [] [], s1.leave.must [59]) := by
    unfold stmtOf pStmt
    rw [hi.now.2.1, if_neg (by decide), if_neg (by decide), if_neg (by decide), if_neg (by decide)]
    unfold pPlain
    rw [e2]
    rfl
  obtain ⟨s9, e9, k9⟩ := block_one h (by decide) (by decide) e3 k2
  refine ⟨[.mk 7 (blockIn s).now.line (blockIn s).now.col [] [.mk 5 l c 0 [103] 0 es] [] []], s9, ?_, k9, ⟨_, _, _, _, _, rfl, q1⟩⟩
  rw [stepsL_succ]
  exact e9

/-! The texts. -/
def nmL (i : Nat) : List UInt8 := [110, [97, 98, 99, 100, 101, 102, 103, 104].getD (i % 8) 97]
def argsT : Nat → List UInt8
  | 0 => []
  | n + 1 => (if n = 0 then [] else argsT n ++ [44]) ++ [49]
def paramsT : Nat → List UInt8
  | 0 => []
  | n + 1 => (if n = 0 then [] else paramsT n ++ [44, 32]) ++ nmL n
def globalsT : Nat → List UInt8
  | 0 => []
  | n + 1 => globalsT n ++ [118, 97, 114, 32] ++ nmL n ++ [91, 55, 93, 59]
def nms (n : Nat) : List (List UInt8) := (List.range n).map nmL
theorem nm_cases (i : Nat) : nmL i = [110, 97] ∨ nmL i = [110, 98] ∨ nmL i = [110, 99] ∨ nmL i = [110, 100] ∨ nmL i = [110, 101] ∨ nmL i = [110, 102] ∨ nmL i = [110, 103] ∨ nmL i = [110, 104] := by
  have h : i % 8 = 0 ∨ i % 8 = 1 ∨ i % 8 = 2 ∨ i % 8 = 3 ∨ i % 8 = 4 ∨ i % 8 = 5 ∨ i % 8 = 6 ∨ i % 8 = 7 := by omega
  unfold nmL
  rcases h with h | h | h | h | h | h | h | h <;> rw [h] <;> decide
theorem nm_cut {c : UInt8} {y : List UInt8} {b : List Sh} (i : Nat) (hc : c = 91 ∨ c = 44 ∨ c = 41) (hy : Cuts (c :: y) b) : Cuts (nmL i ++ c :: y) ((1, nmL i, 0) :: b) := by
  rcases nm_cases i with h | h | h | h | h | h | h | h <;> rw [h] <;> rcases hc with rfl | rfl | rfl <;> exact tok_cut (c := 110) (x := [_]) 1 0 (fun r => ⟨rfl, rfl⟩) hy
theorem global_cut (i : Nat) : Cuts ([118, 97, 114, 32] ++ nmL i ++ [91, 55, 93, 59]) (gSh (nmL i)) := by
  have h1 : Cuts [91, 55, 93, 59] [mk 91, (2, [55], 7), mk 93, mk 59] := (mark_cut (by decide) (tok_cut (c := 55) (x := []) 2 7 (fun r => ⟨rfl, rfl⟩) (mark_cut (by decide) (mark_cut (by decide) Cuts.nil))))
  have h2 := nm_cut i (.inl rfl) h1
  exact (tok_cut (c := 118) (x := [97, 114]) 3 0 (fun r => ⟨rfl, rfl⟩) (blank_cut h2))
theorem globals_cut : ∀ n, Cuts (globalsT n) (gsSh (nms n))
  | 0 => Cuts.nil
  | n + 1 => by
    have h := (globals_cut n).append (global_cut n)
    have e1 : globalsT (n + 1) = globalsT n ++ ([118, 97, 114, 32] ++ nmL n ++ [91, 55, 93, 59]) := by simp [globalsT]
    have e2 : gsSh (nms (n + 1)) = gsSh (nms n) ++ gSh (nmL n) := by simp [gsSh, nms, List.range_succ]
    rw [e1, e2]; exact h
theorem args_cut {y : List UInt8} {b : List Sh} (c : UInt8) (hc : c = 41 ∨ c = 44) (hy : Cuts (c :: y) b) : ∀ n, Cuts (argsT n ++ c :: y) (argsSh n ++ b)
  | 0 => hy
  | 1 => one_cut (by rcases hc with rfl | rfl <;> decide) hy
  | n + 2 => by
    have h1 : Cuts (44 :: 49 :: c :: y) (mk 44 :: oneS :: b) := mark_cut (by decide) (one_cut (by rcases hc with rfl | rfl <;> decide) hy)
    have h2 := args_cut 44 (.inr rfl) h1 (n + 1)
    have e1 : argsT (n + 2) ++ c :: y = argsT (n + 1) ++ 44 :: 49 :: c :: y := by rw [argsT, if_neg (by omega)]; simp
    have e2 : argsSh (n + 2) ++ b = argsSh (n + 1) ++ mk 44 :: oneS :: b := by simp [argsSh, rep_snoc]
    rw [e1, e2]; exact h2
theorem params_cut {y : List UInt8} {b : List Sh} (c : UInt8) (hc : c = 41 ∨ c = 44) (hy : Cuts (c :: y) b) : ∀ n, Cuts (paramsT n ++ c :: y) (paramsSh (nms n) ++ b)
  | 0 => hy
  | 1 => nm_cut 0 (by rcases hc with rfl | rfl <;> decide) hy
  | n + 2 => by
    have h1 : Cuts (44 :: 32 :: (nmL (n + 1) ++ c :: y)) (mk 44 :: (1, nmL (n + 1), 0) :: b) := mark_cut (by decide) (blank_cut (nm_cut (n + 1) (by rcases hc with rfl | rfl <;> decide) hy))
    have h2 := params_cut 44 (.inr rfl) h1 (n + 1)
    have e1 : paramsT (n + 2) ++ c :: y = paramsT (n + 1) ++ 44 :: 32 :: (nmL (n + 1) ++ c :: y) := by rw [paramsT, if_neg (by omega)]; simp
    have e2 : paramsSh (nms (n + 2)) ++ b = paramsSh (nms (n + 1)) ++ mk 44 :: (1, nmL (n + 1), 0) :: b := by
      have : nms (n + 2) = nms (n + 1) ++ [nmL (n + 1)] := by simp [nms, List.range_succ]
      rw [this]
      have : ∃ x l, nms (n + 1) = x :: l := ⟨nmL 0, (List.range n).map (fun i => nmL (i + 1)), by simp [nms, List.range_succ_eq_map, Function.comp_def]⟩
      obtain ⟨x, l, hx⟩ := this
      rw [hx]
      simp [paramsSh, psSh]
    rw [e1, e2]; exact h2
def argText (n m : Nat) : List UInt8 := globalsT m ++ [102, 117, 110, 99, 32, 102, 40] ++ paramsT m ++ [41, 32, 123, 32, 103, 40] ++ argsT n ++ [41, 59, 32, 125]
theorem arg_cut (n m : Nat) : Cuts (argText n m) (gsSh (nms m) ++ (3, funcL, 0) :: (1, [102], 0) :: mk 40 :: (paramsSh (nms m) ++ mk 41 :: mk 123 :: (1, [103], 0) :: mk 40 :: (argsSh n ++ mk 41 :: mk 59 :: mk 125 :: []))) := by
  have h1 : Cuts [41, 59, 32, 125] [mk 41, mk 59, mk 125] := (mark_cut (by decide) (mark_cut (by decide) (blank_cut (mark_cut (by decide) Cuts.nil))))
  have h2 := args_cut 41 (.inl rfl) h1 n
  have h3 : Cuts ([41, 32, 123, 32, 103, 40] ++ (argsT n ++ [41, 59, 32, 125])) (mk 41 :: mk 123 :: (1, [103], 0) :: mk 40 :: (argsSh n ++ [mk 41, mk 59, mk 125])) := (mark_cut (by decide) (blank_cut (mark_cut (by decide) (blank_cut (tok_cut (c := 103) (x := []) 1 0 (fun r => ⟨rfl, rfl⟩) (mark_cut (by decide) h2))))))
  have h4 := params_cut 41 (.inl rfl) h3 m
  have h6 : Cuts ([102, 117, 110, 99, 32, 102, 40] ++ (paramsT m ++ ([41, 32, 123, 32, 103, 40] ++ (argsT n ++ [41, 59, 32, 125])))) ((3, funcL, 0) :: (1, [102], 0) :: mk 40 :: (paramsSh (nms m) ++ mk 41 :: mk 123 :: (1, [103], 0) :: mk 40 :: (argsSh n ++ mk 41 :: mk 59 :: mk 125 :: []))) := (tok_cut (c := 102) (x := [117, 110, 99]) 3 0 (fun r => ⟨rfl, rfl⟩) (blank_cut (tok_cut (c := 102) (x := []) 1 0 (fun r => ⟨rfl, rfl⟩) (mark_cut (by decide) h4))))
  have h5 := (globals_cut m).append h6
  have e : argText n m = globalsT m ++ ([102, 117, 110, 99, 32, 102, 40] ++ (paramsT m ++ ([41, 32, 123, 32, 103, 40] ++ (argsT n ++ [41, 59, 32, 125])))) := by simp [argText]
  rw [e]
  exact h5
theorem nms_length (m : Nat) : (nms m).length = m := by simp [nms]
theorem gs_length (ns : List (List UInt8)) : (gsSh ns).length = 6 * ns.length := by
  induction ns with
  | nil => rfl
  | cons x ns ih =>
    have : gsSh (x :: ns) = gSh x ++ gsSh ns := rfl
    rw [this, List.length_append, ih]
    simp [gSh]; omega
theorem arg_parse (n m : Nat) : ∃ gs fn, parseL (argText n m) = (⟨gs, [fn]⟩, (0, 0, 0)) ∧ gs.length = m ∧ fn.params.length = m ∧ OneCall n fn.body := by
  obtain ⟨ts, hl, hs⟩ := lex_of (arg_cut n m)
  have h0 : Tk (st0 ts) (gsSh (nms m) ++ ((3, funcL, 0) :: (1, [102], 0) :: mk 40 :: (paramsSh (nms m) ++ mk 41 :: mk 123 :: (1, [103], 0) :: mk 40 :: (argsSh n ++ mk 41 :: mk 59 :: mk 125 :: [(0, [], 0)])))) 0 0 := ⟨by show ts.map er = _; rw [hs]; simp, rfl, rfl⟩
  have hN : ∃ f, ts.length = f + 3 + m := by
    have hq : ts.length = _ := h0.len
    refine ⟨ts.length - 3 - m, ?_⟩
    rw [hq]
    simp only [List.length_append, List.length_cons, gs_length, nms_length]
    omega
  obtain ⟨f, hN⟩ := hN
  obtain ⟨p1, s1, a1, a2, a3, a4⟩ := prog_globals (stepsL ts.length).1 (nms m) (f + 3) ⟨[], []⟩ (st0 ts) _ h0
  obtain ⟨b, l, c, ps, b1, b2, b3⟩ := step_params (blk := (stepsL ts.length).1) (p := p1) (fun x hx => by
    simp only [nms, List.mem_map] at hx
    obtain ⟨i, _, rfl⟩ := hx
    unfold nmL; simp) a3
  obtain ⟨lb, s9, c1, c2, c3⟩ := call_ok (f := f + m) b1
  rw [nms_length] at a4 a1 b2
  refine ⟨p1.globals, ⟨[102], ps, lb, l, c⟩, parse_ok (p := ⟨p1.globals, [⟨[102], ps, lb, l, c⟩]⟩) (s := s9) hl ?_ c2.2.2, by simpa using a1, b2, c3⟩
  show progLoop (stepsL ts.length).1 ts.length ⟨[], []⟩ (st0 ts) = _
  have hN2 : ts.length = f + m + 3 := by omega
  rw [show progLoop (stepsL ts.length).1 ts.length ⟨[], []⟩ (st0 ts) = progLoop (stepsL ts.length).1 (f + 3 + m) ⟨[], []⟩ (st0 ts) by rw [← hN], a4, progLoop, if_neg (by rw [a3.now.1]; decide), b3, hN2, c1]
  rw [prog_stop c2, a2]
  rfl
end Go.Proofs.YtgnnendcgbijnaaDoor
