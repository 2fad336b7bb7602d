/-
  Texts piece by piece: their tokens, wherever they stand; and the parser on tokens of a shape.
  Brackets, signs and blocks, nested so deep.
  The texts of ParseNests, and what the parser says of them.
-/
import Derived.Test.YtgnnendcgbijnaaDoorParAI
namespace Go.Proofs.YtgnnendcgbijnaaDoor
open Go.ChangeShapes Go.WideShapes Go.ChangeAt Go.RowKit
set_option linter.unusedVariables false

abbrev Sh := Int × List UInt8 × Int
def er (t : Tok) : Sh := (t.kind, t.text, t.num)
/-- A piece of text is these tokens, whatever stands behind it. -/
def Cuts (x : List UInt8) (sh : List Sh) : Prop := ∀ (r : List UInt8) (line col : Int) (acc : List Tok), ∃ line' col' ts, ts.map er = sh ∧ goL (x ++ r) 0 line col acc = goL r 0 line' col' (acc ++ ts)
theorem Cuts.nil : Cuts [] [] := fun r line col acc => ⟨line, col, [], rfl, by simp⟩
theorem Cuts.append {x y : List UInt8} {a b : List Sh} (h : Cuts x a) (k : Cuts y b) : Cuts (x ++ y) (a ++ b) := by
  intro r line col acc
  obtain ⟨l1, c1, t1, e1, g1⟩ := h (y ++ r) line col acc
  obtain ⟨l2, c2, t2, e2, g2⟩ := k r l1 c1 (acc ++ t1)
  exact ⟨l2, c2, t1 ++ t2, by simp [e1, e2], by rw [List.append_assoc, g1, g2, List.append_assoc]⟩
def rep {α : Type} (n : Nat) (x : List α) : List α := (List.replicate n x).flatten
theorem rep_zero {α : Type} (x : List α) : rep 0 x = [] := rfl
theorem rep_succ {α : Type} (n : Nat) (x : List α) : rep (n + 1) x = x ++ rep n x := by simp [rep, List.replicate_succ]
theorem rep_snoc {α : Type} (n : Nat) (x : List α) : rep (n + 1) x = rep n x ++ x := by
  induction n with
  | zero => simp [rep]
  | succ n ih => rw [rep_succ, ih, ← List.append_assoc, ← rep_succ, ih]
theorem rep_length {α : Type} (n : Nat) (x : List α) : (rep n x).length = n * x.length := by simp [rep]
theorem Cuts.rep {x : List UInt8} {a : List Sh} (h : Cuts x a) : ∀ n, Cuts (rep n x) (@Go.Proofs.YtgnnendcgbijnaaDoor.rep Sh n a)
  | 0 => Cuts.nil
  | n + 1 => by rw [rep_succ, rep_succ]; exact h.append (Cuts.rep h n)
theorem lex_of {x : List UInt8} {sh : List Sh} (h : Cuts x sh) : ∃ ts, lexL x = .ok ts ∧ ts.map er = sh ++ [(0, [], 0)] := by
  obtain ⟨l, c, ts, e, g⟩ := h [] 1 1 []
  refine ⟨ts ++ [⟨0, [], 0, l, c⟩], ?_, by simp [e, er]⟩
  unfold lexL
  rw [List.append_nil] at g
  rw [g]
  simp [goL]
theorem goL_skip (z : List UInt8) (acc : List Tok) : ∀ (x : List UInt8) (line col : Int), ∃ l c, goL (x ++ z) x.length line col acc = goL z 0 l c acc
  | [], line, col => ⟨line, col, rfl⟩
  | a :: x, line, col => by
    obtain ⟨l, c, h⟩ := goL_skip z acc x (lineB line a) (colB col a)
    exact ⟨l, c, by rw [← h]; simp [goL]⟩
theorem tok_cut {c : UInt8} {x y : List UInt8} {b : List Sh} (kind num : Int) (h : ∀ r, gapL (c :: (x ++ (y ++ r))) = 0 ∧ tokL (c :: (x ++ (y ++ r))) = ⟨0, x.length + 1, kind, num⟩) (hy : Cuts y b) : Cuts (c :: x ++ y) ((kind, c :: x, num) :: b) := by
  intro r line col acc
  obtain ⟨h1, h2⟩ := h r
  obtain ⟨l, k, hs⟩ := goL_skip (y ++ r) (acc ++ [⟨kind, c :: x, num, line, col⟩]) x (lineB line c) (colB col c)
  obtain ⟨l2, c2, ts, e, g⟩ := hy r l k (acc ++ [⟨kind, c :: x, num, line, col⟩])
  refine ⟨l2, c2, ⟨kind, c :: x, num, line, col⟩ :: ts, by simp [e, er], ?_⟩
  have : c :: x ++ y ++ r = c :: (x ++ (y ++ r)) := by simp
  rw [this, goL, if_pos h1, h2, if_pos rfl]
  have ht : List.take (x.length + 1) (c :: (x ++ (y ++ r))) = c :: x := by simp
  simp only [ht, Nat.add_sub_cancel]
  rw [hs, g]
  simp
theorem blank_cut {y : List UInt8} {b : List Sh} (hy : Cuts y b) : Cuts (32 :: y) b := by
  intro r line col acc
  obtain ⟨l2, c2, ts, e, g⟩ := hy r (lineB line 32) (colB col 32) acc
  refine ⟨l2, c2, ts, e, ?_⟩
  rw [← g]
  show goL (32 :: (y ++ r)) 0 line col acc = _
  rw [goL, if_neg (by simp [gapL, blankB])]
  simp [gapL, blankB]
theorem safe_mark (c : UInt8) (h : c = 40 ∨ c = 41 ∨ c = 123 ∨ c = 125 ∨ c = 59 ∨ c = 91 ∨ c = 93 ∨ c = 44 ∨ c = 45) (r : List UInt8) : gapL (c :: r) = 0 ∧ tokL (c :: r) = ⟨0, 1, 4, 0⟩ := by
  rcases h with rfl | rfl | rfl | rfl | rfl | rfl | rfl | rfl | rfl <;> cases r <;> constructor <;> simp [gapL, blankB, Lib.hasPrefix, List.isPrefixOf, tokL, letterB, digitB, markL, doubleB, singleB] <;> rfl
theorem mark_cut {c : UInt8} {y : List UInt8} {b : List Sh} (h : c = 40 ∨ c = 41 ∨ c = 123 ∨ c = 125 ∨ c = 59 ∨ c = 91 ∨ c = 93 ∨ c = 44 ∨ c = 45) (hy : Cuts y b) : Cuts (c :: y) ((4, [c], 0) :: b) :=
  tok_cut (x := []) 4 0 (fun r => safe_mark c h _) hy

/-- The reader has tokens of this shape left, is so deep, and has this fault. -/
def Tk (s : St) (sh : List Sh) (d e : Int) : Prop := s.left.map er = sh ∧ s.deep = d ∧ s.err = e
section
variable {s : St} {x : Sh} {sh : List Sh} {d e : Int}
theorem Tk.now (h : Tk s (x :: sh) d e) : s.now.kind = x.1 ∧ s.now.text = x.2.1 ∧ s.now.num = x.2.2 := by
  obtain ⟨h, _, _⟩ := h
  unfold St.now
  cases hl : s.left with
  | nil => rw [hl] at h; simp at h
  | cons t r => rw [hl] at h; simp at h; obtain ⟨rfl, _⟩ := h; exact ⟨rfl, rfl, rfl⟩
theorem Tk.len (h : Tk s sh d e) : s.left.length = sh.length := by rw [← h.1]; simp
theorem Tk.next (h : Tk s (x :: sh) d e) (hx : x.1 ≠ 0) : Tk s.next sh d e := by
  unfold St.next
  rw [if_neg (by rw [h.now.1]; exact hx)]
  refine ⟨?_, h.2.1, h.2.2⟩
  show (s.left.drop 1).map er = sh
  rw [List.map_drop, h.1]; rfl
theorem Tk.sees (h : Tk s (x :: sh) d e) (xs : List (List UInt8)) : s.sees xs = decide (x.2.1 ∈ xs) := by unfold St.sees; rw [h.now.2.1]
theorem Tk.must (h : Tk s (x :: sh) d e) (hx : x.1 ≠ 0) : Tk (s.must x.2.1) sh d e := by
  unfold St.must; rw [h.sees, if_pos (by simp)]; exact h.next hx
theorem Tk.want (h : Tk s (x :: sh) d e) (hx : x.1 ≠ 0) : (s.want x.1).1.text = x.2.1 ∧ Tk (s.want x.1).2 sh d e := by
  unfold St.want; rw [if_pos h.now.1]; exact ⟨h.now.2.1, h.next hx⟩
theorem Tk.enter (h : Tk s sh d 0) (hd : d < 200) : Tk s.enter sh (d + 1) 0 := by
  unfold St.enter; simp only; rw [if_neg (by rw [h.2.1]; omega)]
  exact ⟨h.1, by show s.deep + 1 = d + 1; rw [h.2.1], h.2.2⟩
theorem Tk.leave (h : Tk s sh d e) : Tk s.leave sh (d - 1) e := ⟨h.1, by show s.deep - 1 = d - 1; rw [h.2.1], h.2.2⟩
end
theorem chain_pass {part : Par} {xs : List (List UInt8)} {s : St} {p : Ex × St} {x : Sh} {sh : List Sh} {d e : Int} (hp : part s = p) (h : Tk p.2 (x :: sh) d e) (hx : x.2.1 ∉ xs) : chainL part xs s = p := by
  unfold chainL
  rw [hp]
  cases p.2.left.length with
  | zero => rfl
  | succ n => rw [chainLoop, h.sees, if_neg (by simpa using hx)]
theorem rel_pass {part : Par} {s : St} {p : Ex × St} {x : Sh} {sh : List Sh} {d e : Int} (hp : part s = p) (h : Tk p.2 (x :: sh) d e) (hx : x.2.1 ∉ relMarks) : pRel part s = p := by
  unfold pRel
  rw [hp, h.sees, if_neg (by simpa using hx)]
def allMarks : List (List UInt8) := termMarks ++ sumMarks ++ relMarks ++ andMarks ++ orMarks
theorem expr_pass {u : Par} {s : St} {p : Ex × St} {x : Sh} {sh : List Sh} {d e : Int} (hp : u s.enter = p) (h : Tk p.2 (x :: sh) d e) (hx : x.2.1 ∉ allMarks) : pExprOf u s = (p.1, p.2.leave) := by
  simp only [allMarks, List.mem_append, not_or] at hx
  obtain ⟨⟨⟨⟨h1, h2⟩, h3⟩, h4⟩, h5⟩ := hx
  have e1 : pTerm u s.enter = p := chain_pass hp h h1
  have e2 : pSum u s.enter = p := chain_pass e1 h h2
  have e3 : pRel (pSum u) s.enter = p := rel_pass e2 h h3
  have e4 : pAndOf u s.enter = p := chain_pass e3 h h4
  have e5 : chainL (pAndOf u) orMarks s.enter = p := chain_pass e4 h h5
  show ((chainL (pAndOf u) orMarks s.enter).1, (chainL (pAndOf u) orMarks s.enter).2.leave) = _
  rw [e5]
/-- A number of one digit. -/
theorem num_at {u : Par} {s : St} {c : UInt8} {n : Int} {sh : List Sh} {d e : Int} (hc : c = 49 ∨ c = 48 ∨ c = 50) (h : Tk s ((2, [c], n) :: sh) d e) : ∃ ex, unaryStep u s = (ex, s.next) ∧ Tk s.next sh d e := by
  refine ⟨.mk 1 s.now.line s.now.col s.now.num [] 0 [], ?_, h.next (show (2 : Int) ≠ 0 by decide)⟩
  obtain ⟨h1, h2, _⟩ := h.now
  unfold unaryStep
  rw [h2, h1]
  rcases hc with rfl | rfl | rfl <;> simp
/-- A name that nothing stands behind. -/
theorem var_at {u : Par} {s : St} {c : UInt8} {x : Sh} {sh : List Sh} {d e : Int} (hc : c = 97 ∨ c = 120) (hx : x.2.1 ≠ [91] ∧ x.2.1 ≠ [40]) (h : Tk s ((1, [c], 0) :: x :: sh) d e) : ∃ l k, unaryStep u s = (.mk 3 l k 0 [c] 0 [], s.next) ∧ Tk s.next (x :: sh) d e := by
  have hn := h.next (show (1 : Int) ≠ 0 by decide)
  refine ⟨s.now.line, s.now.col, ?_, hn⟩
  obtain ⟨h1, h2, _⟩ := h.now
  have e1 : s.next.sees [[91]] = false := by rw [hn.sees]; simpa using hx.1
  have e2 : s.next.sees [[40]] = false := by rw [hn.sees]; simpa using hx.2
  unfold unaryStep pNamed
  rw [h2, h1]
  rcases hc with rfl | rfl <;> simp [e1, e2]

/-! A fault stays. -/
def Bd (s : St) : Prop := s.err = 13
theorem St.next_bd {s : St} (h : Bd s) : Bd s.next := by
  unfold St.next; split
  · exact h
  · exact h
theorem St.fail_bd {s : St} (h : Bd s) (e l c : Int) : Bd (s.fail e l c) := by
  unfold St.fail; rw [if_neg (by rw [show s.err = 13 from h]; decide)]; exact h
theorem St.enter_bd {s : St} (h : Bd s) : Bd s.enter := by
  unfold St.enter; simp only; split
  · exact St.fail_bd h _ _ _
  · exact h
theorem St.leave_bd {s : St} (h : Bd s) : Bd s.leave := h
theorem St.must_bd {s : St} (h : Bd s) (x : List UInt8) : Bd (s.must x) := by
  unfold St.must; split
  · exact St.next_bd h
  · exact St.fail_bd h _ _ _
theorem St.want_bd {s : St} (h : Bd s) (k : Int) : Bd (s.want k).2 := by
  unfold St.want; split
  · exact St.next_bd h
  · exact St.fail_bd h _ _ _
def BdP (part : Par) : Prop := ∀ s : St, Bd s → Bd (part s).2
theorem chainLoop_bd {part : Par} (hp : BdP part) (xs : List (List UInt8)) : ∀ (k : Nat) (e : Ex) (s : St), Bd s → Bd (chainLoop part xs k e s).2
  | 0, e, s, h => h
  | k + 1, e, s, h => by
    rw [chainLoop]; split
    · exact chainLoop_bd hp xs k _ _ (hp _ (St.next_bd h))
    · exact h
theorem chain_bd {part : Par} (hp : BdP part) (xs : List (List UInt8)) : BdP (chainL part xs) := fun s h => chainLoop_bd hp xs _ _ _ (hp s h)
theorem rel_bd {part : Par} (hp : BdP part) : BdP (pRel part) := fun s h => by
  unfold pRel; split
  · exact hp _ (St.next_bd (hp s h))
  · exact hp s h
theorem expr_bd {part : Par} (hp : BdP part) : BdP (pExpr part) := fun s h => St.leave_bd (chain_bd hp _ _ (St.enter_bd h))
theorem argsLoop_bd {part : Par} (hp : BdP part) : ∀ (k : Nat) (e : List Ex) (s : St), Bd s → Bd (argsLoop part k e s).2
  | 0, e, s, h => h
  | k + 1, e, s, h => by
    rw [argsLoop]; split
    · exact argsLoop_bd hp k _ _ (hp _ (St.next_bd h))
    · exact h
theorem args_bd {part : Par} (hp : BdP part) {s : St} (h : Bd s) : Bd (pArgs part s).2 := argsLoop_bd hp _ _ _ (hp s h)
theorem named_bd {part : Par} (hp : BdP part) (t : Tok) : BdP (pNamed part t) := fun s h => by
  have h1 := St.next_bd h
  unfold pNamed; split
  · exact St.must_bd (hp _ h1) _
  · split
    · split
      · exact St.must_bd h1 _
      · exact St.must_bd (args_bd hp h1) _
    · exact h
theorem operand_bd {u : Par} (hp : BdP u) : BdP (pOperand u) := fun s h => St.leave_bd (hp _ (St.next_bd (St.enter_bd h)))
theorem exprOf_bd {u : Par} (hp : BdP u) : BdP (pExprOf u) := expr_bd (chain_bd (rel_bd (chain_bd (chain_bd hp _) _)) _)
theorem unaryStep_bd {u : Par} (hp : BdP u) : BdP (unaryStep u) := fun s h => by
  have h1 := St.next_bd h
  have h2 := operand_bd hp s h
  have h3 := St.must_bd (exprOf_bd hp _ h1) [41]
  have h4 := named_bd (exprOf_bd hp) s.now _ h1
  have h5 := St.fail_bd h 12 s.now.line s.now.col
  unfold unaryStep
  repeat' split
  · exact h2
  · exact h2
  · exact h3
  · exact h1
  · exact h1
  · exact h1
  · exact h4
  · exact h5
theorem pUnary_bd : ∀ k, BdP (pUnary k)
  | 0 => fun s h => h
  | k + 1 => unaryStep_bd (pUnary_bd k)
theorem exprL_bd (k : Nat) : BdP (exprL k) := exprOf_bd (pUnary_bd k)


theorem chain_from {part : Par} (hp : BdP part) (xs : List (List UInt8)) {s : St} (h : Bd (part s).2) : Bd (chainL part xs s).2 := chainLoop_bd hp xs _ _ _ h
theorem rel_from {part : Par} (hp : BdP part) {s : St} (h : Bd (part s).2) : Bd (pRel part s).2 := by
  unfold pRel; split
  · exact hp _ (St.next_bd h)
  · exact h
theorem expr_from {u : Par} (hp : BdP u) {s : St} (h : Bd (u s.enter).2) : Bd (pExprOf u s).2 :=
  St.leave_bd (chain_from (chain_bd (rel_bd (chain_bd (chain_bd hp _) _)) _) _ (chain_from (rel_bd (chain_bd (chain_bd hp _) _)) _ (rel_from (chain_bd (chain_bd hp _) _) (chain_from (chain_bd hp _) _ (chain_from hp _ h)))))
theorem enter_bad {s : St} {sh : List Sh} {d : Int} (h : Tk s sh d 0) (hd : 200 ≤ d) : Bd s.enter := by
  unfold St.enter; simp only; rw [if_pos (by rw [h.2.1]; exact hd)]
  unfold St.fail; rw [if_pos h.2.2]; rfl
theorem expr_bad {u : Par} (hp : BdP u) {s : St} {sh : List Sh} {d : Int} (h : Tk s sh d 0) (hd : 200 ≤ d) : Bd (pExprOf u s).2 := expr_from hp (hp _ (enter_bad h hd))
def BdS (par : ParS) : Prop := ∀ s : St, Bd s → Bd (par s).2
def BdL (blk : St → List Sm × St) : Prop := ∀ s : St, Bd s → Bd (blk s).2
theorem refuse_bd {s : St} (h : Bd s) : Bd s.refuse := St.fail_bd h _ _ _
theorem answer_bd {ex : Par} (h : BdP ex) : BdS (pAnswer ex) := fun s b => St.must_bd (h _ (St.next_bd b)) _
theorem let_bd {ex : Par} (h : BdP ex) : BdS (pLet ex) := fun s b => St.must_bd (h _ (St.must_bd (St.want_bd (St.next_bd b) 1) [61])) [59]
theorem loop_bd {ex : Par} {blk : St → List Sm × St} (h : BdP ex) (hb : BdL blk) : BdS (pLoop ex blk) := fun s b => hb _ (h _ (St.next_bd b))
theorem choice_from {ex : Par} {blk oth : St → List Sm × St} (ho : BdL oth) {s : St} (b : Bd (blk (ex s.next).2).2) : Bd (pChoice ex blk oth s).2 := by
  unfold pChoice; split
  · exact ho _ (St.next_bd b)
  · exact b
theorem choice_bd {ex : Par} {blk oth : St → List Sm × St} (h : BdP ex) (hb : BdL blk) (ho : BdL oth) : BdS (pChoice ex blk oth) := fun s b => choice_from ho (hb _ (h _ (St.next_bd b)))
theorem other_bd {blk : St → List Sm × St} {ch : ParS} (hb : BdL blk) (hc : BdS ch) : BdL (pOther blk ch) := fun s b => by
  unfold pOther; split
  · exact St.leave_bd (hc _ (St.enter_bd b))
  · exact hb s b
theorem plain_bd {ex : Par} (h : BdP ex) : BdS (pPlain ex) := fun s b => by
  have b1 := h s b
  unfold pPlain
  repeat' split
  · exact St.must_bd b1 _
  · exact St.must_bd (h _ (St.next_bd b1)) _
  · exact St.must_bd (h _ (St.next_bd b1)) _
  · exact St.must_bd (refuse_bd b1) _
theorem stmt_bd {ex : Par} {blk : St → List Sm × St} {ch : ParS} (h : BdP ex) (hb : BdL blk) (hc : BdS ch) : BdS (stmtOf ex blk ch) := fun s b => by
  unfold stmtOf pStmt
  repeat' split
  · exact let_bd h s b
  · exact hc s b
  · exact loop_bd h hb s b
  · exact answer_bd h s b
  · exact plain_bd h s b
theorem blockLoop_bd {st : ParS} (h : BdS st) : ∀ (k : Nat) (l : List Sm) (s : St), Bd s → Bd (blockLoop st k l s).2
  | 0, l, s, b => b
  | k + 1, l, s, b => by
    rw [blockLoop]; split
    · exact b
    · exact blockLoop_bd h k _ _ (h s b)
theorem block_from {st : ParS} (h : BdS st) {s : St} (b : Bd (blockIn s)) : Bd (pBlock st s).2 := St.leave_bd (St.must_bd (blockLoop_bd h _ _ _ b) _)
theorem block_bd {st : ParS} (h : BdS st) : BdL (pBlock st) := fun s b => block_from h (St.enter_bd (St.must_bd b _))
theorem steps_bd (n : Nat) : BdL (stepsL n).1 ∧ BdS (stepsL n).2 := by
  induction n with
  | zero => exact ⟨fun s b => b, fun s b => b⟩
  | succ n ih =>
    have hb := block_bd (stmt_bd (exprL_bd n) ih.1 ih.2)
    have hc := choice_bd (exprL_bd (n + 1)) hb (other_bd hb ih.2)
    rw [stepsL_succ]
    dsimp only
    exact And.intro hb hc
theorem size_bd {s : St} (b : Bd s) : Bd (pSize s).2 := by
  unfold pSize; split
  · exact St.fail_bd (St.want_bd b _) _ _ _
  · exact St.want_bd b _
theorem global_bd (h : Int) {s : St} (b : Bd s) : Bd (pGlobal h s).2 := by
  have b1 : Bd (letWant s).2 := St.want_bd (St.next_bd b) 1
  unfold pGlobal; split
  · exact St.must_bd (St.must_bd (size_bd (St.next_bd b1)) _) _
  · exact St.must_bd b1 _
theorem paramsLoop_bd : ∀ (k : Nat) (ps : List (List UInt8)) (s : St), Bd s → Bd (paramsLoop k ps s).2
  | 0, ps, s, b => b
  | k + 1, ps, s, b => by
    rw [paramsLoop]; split
    · exact paramsLoop_bd k _ _ (St.want_bd (St.next_bd b) 1)
    · exact b
theorem func_bd {blk : St → List Sm × St} (hb : BdL blk) {s : St} (b : Bd s) : Bd (pFunc blk s).2 := by
  have b1 : Bd (fnHead s) := St.must_bd (St.want_bd (St.next_bd b) 1) _
  unfold pFunc; split
  · exact hb _ (St.must_bd b1 _)
  · exact hb _ (St.must_bd (paramsLoop_bd _ _ _ (St.want_bd b1 1)) _)
theorem progStep_bd {blk : St → List Sm × St} (hb : BdL blk) (p : Pr) {s : St} (b : Bd s) : Bd (progStep blk p s).2 := by
  unfold progStep
  repeat' split
  · exact global_bd 0 b
  · exact global_bd 1 b
  · exact global_bd 2 b
  · exact func_bd hb b
  · exact refuse_bd b
theorem progLoop_bd {blk : St → List Sm × St} (hb : BdL blk) : ∀ (k : Nat) (p : Pr) (s : St), Bd s → Bd (progLoop blk k p s).2
  | 0, p, s, b => b
  | k + 1, p, s, b => by
    rw [progLoop]; split
    · exact b
    · exact progLoop_bd hb k _ _ (progStep_bd hb p b)
theorem parse_bd {l : List UInt8} {ts : List Tok} (hl : lexL l = .ok ts) (b : Bd (pProgram (st0 ts)).2) : (parseL l).2.1 = 13 ∧ (parseL l).1 = ⟨[], []⟩ := by
  have : (pProgram (st0 ts)).2.err = 13 := b
  unfold parseL
  rw [hl]
  simp only
  rw [if_neg (by rw [this]; decide)]
  exact ⟨this, rfl⟩
end Go.Proofs.YtgnnendcgbijnaaDoor

namespace Go.Proofs.YtgnnendcgbijnaaDoor
open Go.ChangeShapes Go.WideShapes Go.ChangeAt Go.RowKit
set_option linter.unusedVariables false

def oneS : Sh := (2, [49], 1)
def mk (c : UInt8) : Sh := (4, [c], 0)
theorem rep_cons {α : Type} (n : Nat) (x : α) (l : List α) : rep (n + 1) [x] ++ l = x :: (rep n [x] ++ l) := by rw [rep_succ]; rfl
theorem rep_back {α : Type} (n : Nat) (x : α) (l : List α) : rep (n + 1) [x] ++ l = rep n [x] ++ x :: l := by rw [rep_snoc]; simp
theorem brackets : ∀ (m f : Nat) (s : St) (d : Int) (x : Sh) (sh : List Sh), m < f → Tk s (rep m [mk 40] ++ oneS :: (rep m [mk 41] ++ x :: sh)) d 0 → d + m ≤ 200 → x.2.1 ∉ allMarks → ∃ e s', pUnary f s = (e, s') ∧ Tk s' (x :: sh) d 0
  | 0, f + 1, s, d, x, sh, hf, h, hd, hx => by
    obtain ⟨e, h1, h2⟩ := num_at (u := pUnary f) (.inl rfl) h
    exact ⟨e, _, h1, h2⟩
  | m + 1, f + 1, s, d, x, sh, hf, h, hd, hx => by
    rw [rep_cons, rep_back] at h
    have h1 := h.next (show (4 : Int) ≠ 0 by decide)
    obtain ⟨e, s', e1, k1⟩ := brackets m f s.next.enter (d + 1) (mk 41) (x :: sh) (by omega) (h1.enter (by omega)) (by omega) (by decide)
    have e2 := expr_pass e1 k1 (by decide)
    have k2 := k1.leave
    have k3 := k2.must (show (4 : Int) ≠ 0 by decide)
    rw [show d + 1 - 1 = d by omega] at k3
    refine ⟨e, s'.leave.must [41], ?_, k3⟩
    show unaryStep (pUnary f) s = _
    unfold unaryStep
    rw [h.now.2.1, if_neg (by decide), if_neg (by decide), if_pos (by rfl), e2]
theorem brackets_bad : ∀ (m f : Nat) (s : St) (d : Int) (rest : List Sh), m ≤ f → Tk s (rep m [mk 40] ++ rest) d 0 → d ≤ 200 → 200 < d + m → Bd (pUnary f s).2
  | 0, f, s, d, rest, hf, h, hd, hm => by omega
  | m + 1, f + 1, s, d, rest, hf, h, hd, hm => by
    rw [rep_cons] at h
    have h1 := h.next (show (4 : Int) ≠ 0 by decide)
    have hb : Bd (pExprOf (pUnary f) s.next).2 := by
      by_cases hd2 : 200 ≤ d
      · exact expr_bad (pUnary_bd f) h1 hd2
      · exact expr_from (pUnary_bd f) (brackets_bad m f s.next.enter (d + 1) rest (by omega) (h1.enter (by omega)) (by omega) (by omega))
    show Bd (unaryStep (pUnary f) s).2
    unfold unaryStep
    rw [h.now.2.1, if_neg (by decide), if_neg (by decide), if_pos (by rfl)]
    exact St.must_bd hb _
theorem signs : ∀ (m f : Nat) (c : UInt8) (s : St) (d : Int) (x : Sh) (sh : List Sh), c = 45 ∨ c = 33 → m < f → Tk s (rep m [mk c] ++ oneS :: x :: sh) d 0 → d + m ≤ 200 → ∃ e s', pUnary f s = (e, s') ∧ Tk s' (x :: sh) d 0
  | 0, f + 1, c, s, d, x, sh, hc, hf, h, hd => by
    obtain ⟨e, h1, h2⟩ := num_at (u := pUnary f) (.inl rfl) h
    exact ⟨e, _, h1, h2⟩
  | m + 1, f + 1, c, s, d, x, sh, hc, hf, h, hd => by
    rw [rep_cons] at h
    have h1 := (h.enter (by omega)).next (show (4 : Int) ≠ 0 by decide)
    obtain ⟨e, s', e1, k1⟩ := signs m f c s.enter.next (d + 1) x sh hc (by omega) h1 (by omega)
    have k2 := k1.leave
    rw [show d + 1 - 1 = d by omega] at k2
    have e2 : pOperand (pUnary f) s = (e, s'.leave) := by unfold pOperand; rw [e1]
    have hn := h.now.2.1
    rcases hc with rfl | rfl
    · refine ⟨.mk 6 s.now.line s.now.col 0 [] 2 [.mk 1 s.now.line s.now.col 0 [] 0 [], e], s'.leave, ?_, k2⟩
      show unaryStep (pUnary f) s = _
      unfold unaryStep
      rw [hn, if_neg (by decide), if_pos (by rfl), e2]
    · refine ⟨.mk 9 s.now.line s.now.col 0 [] 0 [e], s'.leave, ?_, k2⟩
      show unaryStep (pUnary f) s = _
      unfold unaryStep
      rw [hn, if_pos (by rfl), e2]
theorem signs_bad : ∀ (m f : Nat) (c : UInt8) (s : St) (d : Int) (rest : List Sh), c = 45 ∨ c = 33 → m ≤ f → Tk s (rep m [mk c] ++ rest) d 0 → d ≤ 200 → 200 < d + m → Bd (pUnary f s).2
  | 0, f, c, s, d, rest, hc, hf, h, hd, hm => by omega
  | m + 1, f + 1, c, s, d, rest, hc, hf, h, hd, hm => by
    rw [rep_cons] at h
    have hb : Bd (pOperand (pUnary f) s).2 := by
      by_cases hd2 : 200 ≤ d
      · exact St.leave_bd (pUnary_bd f _ (St.next_bd (enter_bad h hd2)))
      · exact St.leave_bd (signs_bad m f c s.enter.next (d + 1) rest hc (by omega) ((h.enter (by omega)).next (show (4 : Int) ≠ 0 by decide)) (by omega) (by omega))
    have hn := h.now.2.1
    show Bd (unaryStep (pUnary f) s).2
    unfold unaryStep
    rcases hc with rfl | rfl
    · rw [hn, if_neg (by decide), if_pos (by rfl)]; exact hb
    · rw [hn, if_pos (by rfl)]; exact hb

/-- A statement that a block begins: if a {, or while a {. -/
def opens (b : Bool) : List Sh := [(3, if b then ifL else whileL, 0), (1, [97], 0), (4, [123], 0)]
theorem blockLoop_stop {st : ParS} {s : St} {sh : List Sh} {d e : Int} (h : Tk s (mk 125 :: sh) d e) (k : Nat) (l : List Sm) : blockLoop st k l s = (l, s) := by
  cases k with
  | zero => rfl
  | succ k => rw [blockLoop, if_pos (.inl (by rw [h.sees]; decide))]
theorem blockIn_at {s : St} {sh : List Sh} {d : Int} (h : Tk s (mk 123 :: sh) d 0) (hd : d < 200) : Tk (blockIn s) sh (d + 1) 0 := (h.must (show (4 : Int) ≠ 0 by decide)).enter hd
theorem block_one {st : ParS} {s s' : St} {x : Sh} {rest sh : List Sh} {sm : Sm} {d : Int} (h : Tk s (mk 123 :: x :: rest) d 0) (hd : d < 200) (hx : x.1 ≠ 0 ∧ x.2.1 ≠ [125]) (he : st (blockIn s) = (sm, s')) (k : Tk s' (mk 125 :: sh) (d + 1) 0) : ∃ s9, pBlock st s = ([sm], s9) ∧ Tk s9 sh d 0 := by
  have hi := blockIn_at h hd
  have hl : (blockIn s).left.length = rest.length + 1 := by rw [hi.len]; rfl
  have e1 : blockLoop st (blockIn s).left.length [] (blockIn s) = ([sm], s') := by
    rw [hl, blockLoop, if_neg (by rw [hi.sees, hi.now.1]; simpa using ⟨hx.2, hx.1⟩), he]
    exact blockLoop_stop k _ _
  have k2 := (k.must (show (4 : Int) ≠ 0 by decide)).leave
  rw [show d + 1 - 1 = d by omega] at k2
  refine ⟨_, ?_, k2⟩
  unfold pBlock
  rw [e1]
  rfl
theorem expr_var {f : Nat} {s : St} {x : Sh} {sh : List Sh} {d : Int} (h : Tk s ((1, [97], 0) :: x :: sh) d 0) (hd : d < 200) (hx : x.2.1 ∉ allMarks ∧ x.2.1 ≠ [91] ∧ x.2.1 ≠ [40]) : ∃ e s', exprL (f + 1) s = (e, s') ∧ Tk s' (x :: sh) d 0 := by
  obtain ⟨l, k, e1, k1⟩ := var_at (u := pUnary f) (.inl rfl) hx.2 (h.enter hd)
  have e2 := expr_pass (u := pUnary (f + 1)) e1 k1 hx.1
  have k2 := k1.leave
  rw [show d + 1 - 1 = d by omega] at k2
  exact ⟨_, _, e2, k2⟩
theorem blocks (b : Bool) : ∀ (m f : Nat) (s : St) (d : Int) (sh : List Sh), m < f → Tk s (mk 123 :: (rep m (opens b) ++ (rep m [mk 125] ++ mk 125 :: sh))) d 0 → d + m < 200 → ∃ l s', (stepsL f).1 s = (l, s') ∧ Tk s' sh d 0
  | 0, f + 1, s, d, sh, hf, h, hd => by
    have hi := blockIn_at h (by omega)
    have k2 := (hi.must (show (4 : Int) ≠ 0 by decide)).leave
    rw [show d + 1 - 1 = d by omega] at k2
    refine ⟨[], _, ?_, k2⟩
    rw [stepsL_succ]
    dsimp only
    unfold pBlock
    rw [blockLoop_stop hi]
    rfl
  | m + 1, 1, s, d, sh, hf, h, hd => by omega
  | m + 1, f + 2, s, d, sh, hf, h, hd => by
    rw [rep_succ, rep_back] at h
    have hi := blockIn_at h (by omega)
    have h1 := hi.next (show (3 : Int) ≠ 0 by decide)
    obtain ⟨e, s1, e1, k1⟩ := expr_var (f := f) h1 (by omega) (by decide)
    obtain ⟨l, s2, e2, k2⟩ := blocks b m (f + 1) s1 (d + 1) (mk 125 :: sh) (by omega) k1 (by omega)
    rw [stepsL_succ]
    dsimp only
    cases b with
    | true =>
      have e3 : stmtOf (exprL (f + 1)) (stepsL (f + 1)).1 (stepsL (f + 1)).2 (blockIn s) = (.mk 4 (blockIn s).now.line (blockIn s).now.col [] [e] l [], s2) := by
        unfold stmtOf pStmt
        rw [hi.now.2.1, if_neg (by decide), if_pos (by rfl), stepsL_succ]
        rw [stepsL_succ] at e2
        dsimp only at e2 ⊢
        unfold pChoice
        rw [e1, e2, if_neg (by rw [k2.sees]; decide)]
      obtain ⟨s9, e9, k9⟩ := block_one h (by omega) (by decide) e3 k2
      exact ⟨_, _, e9, k9⟩
    | false =>
      have e3 : stmtOf (exprL (f + 1)) (stepsL (f + 1)).1 (stepsL (f + 1)).2 (blockIn s) = (.mk 5 (blockIn s).now.line (blockIn s).now.col [] [e] l [], s2) := by
        unfold stmtOf pStmt
        rw [hi.now.2.1, if_neg (by decide), if_neg (by decide), if_pos (by rfl)]
        unfold pLoop
        rw [e1, e2]
      obtain ⟨s9, e9, k9⟩ := block_one h (by omega) (by decide) e3 k2
      exact ⟨_, _, e9, k9⟩
theorem block_more {st : ParS} (hs : BdS st) {s : St} {x : Sh} {rest : List Sh} {d : Int} (h : Tk s (mk 123 :: x :: rest) d 0) (hd : d < 200) (hx : x.1 ≠ 0 ∧ x.2.1 ≠ [125]) (b : Bd (st (blockIn s)).2) : Bd (pBlock st s).2 := by
  have hi := blockIn_at h hd
  have hl : (blockIn s).left.length = rest.length + 1 := by rw [hi.len]; rfl
  unfold pBlock
  rw [hl, blockLoop, if_neg (by rw [hi.sees, hi.now.1]; simpa using ⟨hx.2, hx.1⟩)]
  exact St.leave_bd (St.must_bd (blockLoop_bd hs _ _ _ b) _)
theorem blocks_bad (b : Bool) : ∀ (m f : Nat) (s : St) (d : Int) (rest : List Sh), m < f → Tk s (mk 123 :: (rep m (opens b) ++ rest)) d 0 → d ≤ 200 → 200 ≤ d + m → Bd ((stepsL f).1 s).2
  | 0, f + 1, s, d, rest, hf, h, hd, hm => by
    rw [stepsL_succ]
    exact block_from (stmt_bd (exprL_bd f) (steps_bd f).1 (steps_bd f).2) (enter_bad (h.must (show (4 : Int) ≠ 0 by decide)) (by omega))
  | m + 1, 1, s, d, rest, hf, h, hd, hm => by omega
  | m + 1, f + 2, s, d, rest, hf, h, hd, hm => by
    have hst := stmt_bd (exprL_bd (f + 1)) (steps_bd (f + 1)).1 (steps_bd (f + 1)).2
    by_cases hd2 : 200 ≤ d
    · rw [stepsL_succ]
      exact block_from hst (enter_bad (h.must (show (4 : Int) ≠ 0 by decide)) hd2)
    · rw [rep_succ] at h
      have hi := blockIn_at h (by omega)
      have h1 := hi.next (show (3 : Int) ≠ 0 by decide)
      have hb : Bd ((stepsL (f + 1)).1 (exprL (f + 1) (blockIn s).next).2).2 := by
        by_cases hd3 : 200 ≤ d + 1
        · exact (steps_bd (f + 1)).1 _ (expr_bad (pUnary_bd (f + 1)) h1 hd3)
        · obtain ⟨e, s1, e1, k1⟩ := expr_var (f := f) h1 (by omega) (by decide)
          rw [e1]
          exact blocks_bad b m (f + 1) s1 (d + 1) rest (by omega) k1 (by omega) (by omega)
      rw [stepsL_succ]
      dsimp only
      refine block_more hst h (by omega) (by cases b <;> decide) ?_
      unfold stmtOf pStmt
      cases b with
      | true =>
        rw [hi.now.2.1, if_neg (by decide), if_pos (by rfl), stepsL_succ]
        rw [stepsL_succ] at hb
        dsimp only at hb ⊢
        exact choice_from (other_bd (block_bd (stmt_bd (exprL_bd f) (steps_bd f).1 (steps_bd f).2)) (steps_bd f).2) hb
      | false =>
        rw [hi.now.2.1, if_neg (by decide), if_neg (by decide), if_pos (by rfl)]
        exact hb
end Go.Proofs.YtgnnendcgbijnaaDoor

namespace Go.Proofs.YtgnnendcgbijnaaDoor
open Go.ChangeShapes Go.WideShapes Go.ChangeAt Go.RowKit
set_option linter.unusedVariables false

def fHead : List Sh := [(3, funcL, 0), (1, [102], 0), (4, [40], 0), (4, [41], 0)]
theorem step_func {blk : St → List Sm × St} {p : Pr} {s : St} {body : List Sh} (h : Tk s (fHead ++ body) 0 0) : ∃ b l c, Tk b body 0 0 ∧ progStep blk p s = (⟨p.globals, p.funcs ++ [⟨[102], [], (blk b).1, l, c⟩]⟩, (blk b).2) := by
  have h1 := h.next (show (3 : Int) ≠ 0 by decide)
  obtain ⟨h2, h3⟩ := h1.want (show (1 : Int) ≠ 0 by decide)
  have h4 := h3.must (show (4 : Int) ≠ 0 by decide)
  have h5 := h4.must (show (4 : Int) ≠ 0 by decide)
  refine ⟨(fnHead s).must [41], (letWant s).1.line, (letWant s).1.col, h5, ?_⟩
  unfold progStep
  rw [h.now.2.1, if_neg (by decide), if_neg (by decide), if_neg (by decide), if_pos (by rfl)]
  have h6 : (fnHead s).sees [[41]] = true := (h4.sees [[41]]).trans (by decide)
  have h7 : (letWant s).1.text = [102] := h2
  unfold addF pFunc
  rw [if_pos h6, h7]
theorem prog_stop {blk : St → List Sm × St} {s : St} {d e : Int} (h : Tk s [(0, [], 0)] d e) (k : Nat) (p : Pr) : progLoop blk k p s = (p, s) := by
  cases k with
  | zero => rfl
  | succ k => rw [progLoop, if_pos h.now.1]
theorem prog_ok {P : List Sm → Prop} {ts : List Tok} {body : List Sh} (h : ts.map er = fHead ++ body) (hb : ∀ b, Tk b body 0 0 → ∃ l s', (stepsL ts.length).1 b = (l, s') ∧ Tk s' [(0, [], 0)] 0 0 ∧ P l) : ∃ fn s', pProgram (st0 ts) = (⟨[], [fn]⟩, s') ∧ s'.err = 0 ∧ P fn.body ∧ fn.params = [] := by
  have h0 : Tk (st0 ts) (fHead ++ body) 0 0 := ⟨h, rfl, rfl⟩
  obtain ⟨b, l, c, k1, e1⟩ := step_func (blk := (stepsL ts.length).1) (p := ⟨[], []⟩) h0
  obtain ⟨lb, s', e2, k2, hp⟩ := hb b k1
  have hl : (st0 ts).left.length = body.length + 3 + 1 := by rw [h0.len]; simp [fHead]
  refine ⟨⟨[102], [], lb, l, c⟩, s', ?_, k2.2.2, hp, rfl⟩
  show progLoop (stepsL ts.length).1 (st0 ts).left.length ⟨[], []⟩ (st0 ts) = _
  rw [hl, progLoop, if_neg (by rw [h0.now.1]; decide), e1, e2]
  rw [prog_stop k2]
  rfl
theorem prog_bad {ts : List Tok} {body : List Sh} (h : ts.map er = fHead ++ body) (hb : ∀ b, Tk b body 0 0 → Bd ((stepsL ts.length).1 b).2) : Bd (pProgram (st0 ts)).2 := by
  have h0 : Tk (st0 ts) (fHead ++ body) 0 0 := ⟨h, rfl, rfl⟩
  obtain ⟨b, l, c, k1, e1⟩ := step_func (blk := (stepsL ts.length).1) (p := ⟨[], []⟩) h0
  have hl : (st0 ts).left.length = body.length + 3 + 1 := by rw [h0.len]; simp [fHead]
  show Bd (progLoop (stepsL ts.length).1 (st0 ts).left.length ⟨[], []⟩ (st0 ts)).2
  rw [hl, progLoop, if_neg (by rw [h0.now.1]; decide), e1]
  exact progLoop_bd (steps_bd _).1 _ _ _ (hb b k1)
theorem parse_ok {l : List UInt8} {ts : List Tok} {p : Pr} {s : St} (hl : lexL l = .ok ts) (h : pProgram (st0 ts) = (p, s)) (he : s.err = 0) : parseL l = (p, (0, 0, 0)) := by
  unfold parseL
  rw [hl]
  simp only
  rw [h, if_pos he]
/-- A block of one Return. -/
theorem ret_ok {f : Nat} {s : St} {X sh : List Sh} (h : Tk s (mk 123 :: (3, returnL, 0) :: X) 0 0) (hu : ∀ s1, Tk s1 X 2 0 → ∃ e s', pUnary f s1 = (e, s') ∧ Tk s' (mk 59 :: mk 125 :: sh) 2 0) : ∃ l s', (stepsL (f + 1)).1 s = (l, s') ∧ Tk s' sh 0 0 ∧ True := by
  have hi := blockIn_at h (by decide)
  have h1 := hi.next (show (3 : Int) ≠ 0 by decide)
  obtain ⟨e, s1, e1, k1⟩ := hu _ (h1.enter (by decide))
  have e2 : exprL f (blockIn s).next = (e, s1.leave) := expr_pass e1 k1 (by decide)
  have k2 := k1.leave.must (show (4 : Int) ≠ 0 by decide)
  have e3 : stmtOf (exprL f) (stepsL f).1 (stepsL f).2 (blockIn s) = (.mk 6 (blockIn s).now.line (blockIn s).now.col [] [e] [] [], s1.leave.must [59]) := by
    unfold stmtOf pStmt
    rw [hi.now.2.1, if_neg (by decide), if_neg (by decide), if_neg (by decide), if_pos (by rfl)]
    unfold pAnswer
    rw [e2]
  obtain ⟨s9, e9, k9⟩ := block_one h (by decide) (by decide) e3 k2
  refine ⟨[.mk 6 (blockIn s).now.line (blockIn s).now.col [] [e] [] []], s9, ?_, k9, trivial⟩
  rw [stepsL_succ]
  exact e9
theorem ret_bad {f : Nat} {s : St} {X : List Sh} (h : Tk s (mk 123 :: (3, returnL, 0) :: X) 0 0) (hu : ∀ s1, Tk s1 X 2 0 → Bd (pUnary f s1).2) : Bd ((stepsL (f + 1)).1 s).2 := by
  have hi := blockIn_at h (by decide)
  have h1 := hi.next (show (3 : Int) ≠ 0 by decide)
  have hb : Bd (exprL f (blockIn s).next).2 := expr_from (pUnary_bd f) (hu _ (h1.enter (by decide)))
  rw [stepsL_succ]
  dsimp only
  refine block_more (stmt_bd (exprL_bd f) (steps_bd f).1 (steps_bd f).2) h (by decide) (by decide) ?_
  unfold stmtOf pStmt
  rw [hi.now.2.1, if_neg (by decide), if_neg (by decide), if_neg (by decide), if_pos (by rfl)]
  exact St.must_bd hb _

def retPre : List UInt8 := [102, 117, 110, 99, 32, 102, 40, 41, 32, 123, 32, 114, 101, 116, 117, 114, 110, 32]
def fnPre : List UInt8 := [102, 117, 110, 99, 32, 102, 40, 41, 32, 123, 32]
def retEnd : List UInt8 := [59, 32, 125]
def fnEnd : List UInt8 := [32, 125]
theorem retPre_cut {y : List UInt8} {b : List Sh} (hy : Cuts y b) : Cuts (retPre ++ y) (fHead ++ mk 123 :: (3, returnL, 0) :: b) :=
  (tok_cut (c := 102) (x := [117, 110, 99]) 3 0 (fun r => ⟨rfl, rfl⟩) (blank_cut (tok_cut (c := 102) (x := []) 1 0 (fun r => ⟨rfl, rfl⟩) (mark_cut (by decide) (mark_cut (by decide) (blank_cut (mark_cut (by decide) (blank_cut (tok_cut (c := 114) (x := [101, 116, 117, 114, 110]) 3 0 (fun r => ⟨rfl, rfl⟩) (blank_cut hy))))))))))
theorem fnPre_cut {y : List UInt8} {b : List Sh} (hy : Cuts y b) : Cuts (fnPre ++ y) (fHead ++ mk 123 :: b) :=
  (tok_cut (c := 102) (x := [117, 110, 99]) 3 0 (fun r => ⟨rfl, rfl⟩) (blank_cut (tok_cut (c := 102) (x := []) 1 0 (fun r => ⟨rfl, rfl⟩) (mark_cut (by decide) (mark_cut (by decide) (blank_cut (mark_cut (by decide) (blank_cut hy))))))))
theorem retEnd_cut : Cuts retEnd [mk 59, mk 125] := (mark_cut (by decide) (blank_cut (mark_cut (by decide) Cuts.nil)))
theorem fnEnd_cut : Cuts fnEnd [mk 125] := (blank_cut (mark_cut (by decide) Cuts.nil))
theorem one_cut {c : UInt8} {y : List UInt8} {b : List Sh} (hc : c = 41 ∨ c = 59 ∨ c = 44) (hy : Cuts (c :: y) b) : Cuts (49 :: c :: y) (oneS :: b) := by
  rcases hc with rfl | rfl | rfl <;> exact tok_cut (c := 49) (x := []) 2 1 (fun r => ⟨rfl, rfl⟩) hy
theorem opens_cut (b : Bool) : Cuts (if b then [105, 102, 32, 97, 32, 123] else [119, 104, 105, 108, 101, 32, 97, 32, 123]) (opens b) := by
  cases b
  · exact (tok_cut (c := 119) (x := [104, 105, 108, 101]) 3 0 (fun r => ⟨rfl, rfl⟩) (blank_cut (tok_cut (c := 97) (x := []) 1 0 (fun r => ⟨rfl, rfl⟩) (blank_cut (mark_cut (by decide) Cuts.nil)))))
  · exact (tok_cut (c := 105) (x := [102]) 3 0 (fun r => ⟨rfl, rfl⟩) (blank_cut (tok_cut (c := 97) (x := []) 1 0 (fun r => ⟨rfl, rfl⟩) (blank_cut (mark_cut (by decide) Cuts.nil)))))
theorem bangs_cut {y : List UInt8} {b : List Sh} (hy : Cuts (49 :: y) b) : ∀ n, Cuts (rep n [33] ++ 49 :: y) (rep n [mk 33] ++ b)
  | 0 => hy
  | 1 => tok_cut (c := 33) (x := []) 4 0 (fun r => ⟨rfl, rfl⟩) hy
  | n + 2 => by
    have h := bangs_cut hy (n + 1)
    rw [rep_cons] at h
    rw [rep_cons, rep_cons, rep_cons]
    rw [rep_cons] at h
    exact tok_cut (c := 33) (x := []) 4 0 (fun r => ⟨rfl, rfl⟩) h
theorem reps_cut {c : UInt8} {y : List UInt8} {b : List Sh} (h : c = 40 ∨ c = 41 ∨ c = 123 ∨ c = 125 ∨ c = 59 ∨ c = 91 ∨ c = 93 ∨ c = 44 ∨ c = 45) (hy : Cuts y b) : ∀ n, Cuts (rep n [c] ++ y) (rep n [mk c] ++ b)
  | 0 => hy
  | n + 1 => by rw [rep_cons, rep_cons]; exact mark_cut h (reps_cut h hy n)
def openL (k : Nat) : List UInt8 := [[40], [45], [33], [105, 102, 32, 97, 32, 123], [119, 104, 105, 108, 101, 32, 97, 32, 123]].getD k []
def shutL (k : Nat) : List UInt8 := [[41], [], [], [125], [125]].getD k []
def nestText (k n : Nat) : List UInt8 := if k < 3 then retPre ++ rep n (openL k) ++ [49] ++ rep n (shutL k) ++ retEnd else fnPre ++ rep n (openL k) ++ rep n (shutL k) ++ fnEnd
def nestDeep (k n : Nat) : Nat := if k < 3 then 2 + n else 1 + n
theorem rep_none {α : Type} (n : Nat) : rep n ([] : List α) = [] := by simp [rep]
theorem nest_cut (k n : Nat) (hk : k < 3) : Cuts (nestText k n) (fHead ++ mk 123 :: (3, returnL, 0) :: (rep n [mk ((openL k).headD 0)] ++ oneS :: (rep n (if k = 0 then [mk 41] else []) ++ [mk 59, mk 125]))) := by
  unfold nestText
  rw [if_pos hk]
  have h3 : k = 0 ∨ k = 1 ∨ k = 2 := by omega
  have hend := retEnd_cut
  rcases h3 with rfl | rfl | rfl
  · have h1 := reps_cut (c := 41) (by decide) hend n
    have h2 : Cuts (49 :: (rep n [41] ++ retEnd)) (oneS :: (rep n [mk 41] ++ [mk 59, mk 125])) := by
      cases n with
      | zero => exact one_cut (.inr (.inl rfl)) h1
      | succ n => rw [rep_cons] at h1 ⊢; exact one_cut (.inl rfl) h1
    have h4 := retPre_cut (reps_cut (c := 40) (by decide) h2 n)
    simpa [List.append_assoc, shutL, openL] using h4
  · have h2 : Cuts (49 :: retEnd) (oneS :: [mk 59, mk 125]) := one_cut (.inr (.inl rfl)) hend
    have h4 := retPre_cut (reps_cut (c := 45) (by decide) h2 n)
    simpa [List.append_assoc, rep_none, shutL, openL] using h4
  · have h2 : Cuts (49 :: retEnd) (oneS :: [mk 59, mk 125]) := one_cut (.inr (.inl rfl)) hend
    have h4 := retPre_cut (bangs_cut h2 n)
    simpa [List.append_assoc, rep_none, shutL, openL] using h4
theorem nest_cut2 (k n : Nat) (hk : k = 3 ∨ k = 4) : Cuts (nestText k n) (fHead ++ mk 123 :: (rep n (opens (decide (k = 3))) ++ (rep n [mk 125] ++ [mk 125]))) := by
  unfold nestText
  have h1 := reps_cut (c := 125) (by decide) fnEnd_cut n
  rcases hk with rfl | rfl
  · have h2 := fnPre_cut (((opens_cut true).rep n).append h1)
    simpa [List.append_assoc, openL, shutL] using h2
  · have h2 := fnPre_cut (((opens_cut false).rep n).append h1)
    simpa [List.append_assoc, openL, shutL] using h2
theorem nest_good (k n : Nat) (hk : k < 5) (hn : nestDeep k n ≤ 200) : ∃ fn, parseL (nestText k n) = (⟨[], [fn]⟩, (0, 0, 0)) := by
  by_cases h3 : k < 3
  · rw [nestDeep, if_pos h3] at hn
    obtain ⟨ts, hl, hs⟩ := lex_of (nest_cut k n h3)
    have hlen : ts.length = (fHead ++ mk 123 :: (3, returnL, 0) :: (rep n [mk ((openL k).headD 0)] ++ oneS :: (rep n (if k = 0 then [mk 41] else []) ++ [mk 59, mk 125])) ++ [(0, [], 0)]).length := by rw [← hs]; simp
    have hN : ∃ f, ts.length = f + 1 ∧ n < f := by
      refine ⟨ts.length - 1, ?_, ?_⟩ <;> rw [hlen] <;> simp [rep_length, fHead] <;> omega
    obtain ⟨f, hN, hf⟩ := hN
    rw [List.append_assoc] at hs
    obtain ⟨fn, s', e1, e2, _⟩ := prog_ok (P := fun _ => True) hs (fun b k1 => by
      rw [hN]
      refine ret_ok (X := rep n [mk ((openL k).headD 0)] ++ oneS :: (rep n (if k = 0 then [mk 41] else []) ++ (mk 59 :: mk 125 :: [(0, [], 0)]))) (by simpa using k1) (fun s1 k2 => ?_)
      have h4 : k = 0 ∨ k = 1 ∨ k = 2 := by omega
      rcases h4 with rfl | rfl | rfl
      · exact brackets n f s1 2 (mk 59) _ hf k2 (by omega) (by decide)
      · simp only [rep_none, Nat.one_ne_zero, if_false, List.nil_append] at k2
        exact signs n f 45 s1 2 (mk 59) _ (.inl rfl) hf k2 (by omega)
      · have k3 : Tk s1 (rep n [mk 33] ++ oneS :: mk 59 :: mk 125 :: [(0, [], 0)]) 2 0 := by simpa [rep_none, openL] using k2
        exact signs n f 33 s1 2 (mk 59) _ (.inr rfl) hf k3 (by omega))
    exact ⟨fn, parse_ok hl e1 e2⟩
  · rw [nestDeep, if_neg h3] at hn
    obtain ⟨ts, hl, hs⟩ := lex_of (nest_cut2 k n (by omega))
    have hlen : ts.length = (fHead ++ mk 123 :: (rep n (opens (decide (k = 3))) ++ (rep n [mk 125] ++ [mk 125])) ++ [(0, [], 0)]).length := by rw [← hs]; simp
    have hN : n < ts.length := by
      rw [hlen]; simp [rep_length, fHead, opens]; omega
    rw [List.append_assoc] at hs
    obtain ⟨fn, s', e1, e2, _⟩ := prog_ok (P := fun _ => True) hs (fun b k1 => by
      obtain ⟨l, s', e1, k9⟩ := blocks (decide (k = 3)) n ts.length b 0 [(0, [], 0)] hN (by simpa using k1) (by omega)
      exact ⟨l, s', e1, k9, trivial⟩)
    exact ⟨fn, parse_ok hl e1 e2⟩
theorem nest_deep (k n : Nat) (hk : k < 5) (hn : 200 < nestDeep k n) : (parseL (nestText k n)).2.1 = 13 ∧ (parseL (nestText k n)).1 = ⟨[], []⟩ := by
  by_cases h3 : k < 3
  · rw [nestDeep, if_pos h3] at hn
    obtain ⟨ts, hl, hs⟩ := lex_of (nest_cut k n h3)
    have hlen : ts.length = (fHead ++ mk 123 :: (3, returnL, 0) :: (rep n [mk ((openL k).headD 0)] ++ oneS :: (rep n (if k = 0 then [mk 41] else []) ++ [mk 59, mk 125])) ++ [(0, [], 0)]).length := by rw [← hs]; simp
    have hN : ∃ f, ts.length = f + 1 ∧ n < f := by
      refine ⟨ts.length - 1, ?_, ?_⟩ <;> rw [hlen] <;> simp [rep_length, fHead] <;> omega
    obtain ⟨f, hN, hf⟩ := hN
    rw [List.append_assoc] at hs
    refine parse_bd hl (prog_bad hs (fun b k1 => ?_))
    rw [hN]
    refine ret_bad (X := rep n [mk ((openL k).headD 0)] ++ oneS :: (rep n (if k = 0 then [mk 41] else []) ++ (mk 59 :: mk 125 :: [(0, [], 0)]))) (by simpa using k1) (fun s1 k2 => ?_)
    have h4 : k = 0 ∨ k = 1 ∨ k = 2 := by omega
    rcases h4 with rfl | rfl | rfl
    · exact brackets_bad n f s1 2 _ (by omega) k2 (by omega) (by omega)
    · exact signs_bad n f 45 s1 2 _ (.inl rfl) (by omega) k2 (by omega) (by omega)
    · exact signs_bad n f 33 s1 2 _ (.inr rfl) (by omega) k2 (by omega) (by omega)
  · rw [nestDeep, if_neg h3] at hn
    obtain ⟨ts, hl, hs⟩ := lex_of (nest_cut2 k n (by omega))
    have hlen : ts.length = (fHead ++ mk 123 :: (rep n (opens (decide (k = 3))) ++ (rep n [mk 125] ++ [mk 125])) ++ [(0, [], 0)]).length := by rw [← hs]; simp
    have hN : n < ts.length := by
      rw [hlen]; simp [rep_length, fHead, opens]; omega
    rw [List.append_assoc] at hs
    refine parse_bd hl (prog_bad hs (fun b k1 => ?_))
    exact blocks_bad (decide (k = 3)) n ts.length b 0 _ hN (by simpa using k1) (by omega) (by omega)
end Go.Proofs.YtgnnendcgbijnaaDoor
