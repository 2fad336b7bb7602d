/-
  The parser: statements as the model reads them; they keep how deep the reader is, and take a token.
-/
import Derived.Test.YtgnnendcgbijnaaDoorParV
namespace Go.Proofs.YtgnnendcgbijnaaDoor
open Go.ChangeShapes Go.WideShapes Go.ChangeAt Go.RowKit
set_option linter.unusedVariables false

def Ex.kind : Ex → Int | .mk k _ _ _ _ _ _ => k
def Ex.name : Ex → List UInt8 | .mk _ _ _ _ n _ _ => n
def Ex.kids : Ex → List Ex | .mk _ _ _ _ _ _ ks => ks
def pPlain (ex : Par) : ParS := fun s =>
  if (ex s).1.kind = 5 then (.mk 7 s.now.line s.now.col [] [(ex s).1] [] [], (ex s).2.must [59])
  else if (ex s).1.kind = 3 ∧ (ex s).2.sees [[61]] = true then (.mk 2 s.now.line s.now.col (ex s).1.name [(ex (ex s).2.next).1] [] [], (ex (ex s).2.next).2.must [59])
  else if (ex s).1.kind = 4 ∧ (ex s).2.sees [[61]] = true then (.mk 3 s.now.line s.now.col (ex s).1.name ((ex s).1.kids ++ [(ex (ex s).2.next).1]) [] [], (ex (ex s).2.next).2.must [59])
  else (.mk 0 s.now.line s.now.col [] [] [] [], (ex s).2.refuse.must [59])
def blockLoop (st : ParS) : Nat → List Sm → St → List Sm × St
  | 0, l, s => (l, s)
  | k + 1, l, s => if s.sees [[125]] = true ∨ s.now.kind = 0 then (l, s) else blockLoop st k (l ++ [(st s).1]) (st s).2
def blockIn (s : St) : St := (s.must [123]).enter
def pBlock (st : ParS) : St → List Sm × St := fun s =>
  ((blockLoop st (blockIn s).left.length [] (blockIn s)).1, ((blockLoop st (blockIn s).left.length [] (blockIn s)).2.must [125]).leave)
def stmtOf (ex : Par) (blk : St → List Sm × St) (ch : ParS) : ParS := pStmt (pLet ex) ch (pLoop ex blk) (pAnswer ex) (pPlain ex)
def noSm : Sm := .mk 0 0 0 [] [] [] []
/-- Blocks and choices, with so much fuel. -/
def stepsL : Nat → (St → List Sm × St) × ParS
  | 0 => (fun s => ([], s), fun s => (noSm, s))
  | n + 1 => (pBlock (stmtOf (exprL n) (stepsL n).1 (stepsL n).2),
      pChoice (exprL (n + 1)) (pBlock (stmtOf (exprL n) (stepsL n).1 (stepsL n).2)) (pOther (pBlock (stmtOf (exprL n) (stepsL n).1 (stepsL n).2)) (stepsL n).2))

theorem stepsL_succ (n : Nat) : stepsL (n + 1) = (pBlock (stmtOf (exprL n) (stepsL n).1 (stepsL n).2),
      pChoice (exprL (n + 1)) (pBlock (stmtOf (exprL n) (stepsL n).1 (stepsL n).2)) (pOther (pBlock (stmtOf (exprL n) (stepsL n).1 (stepsL n).2)) (stepsL n).2)) := by rw [stepsL]
/-- It keeps how deep the reader is, and makes no tokens, of whatever reader. -/
def FineT (s s' : St) : Prop := s'.deep = s.deep ∧ s'.left.length ≤ s.left.length
theorem FineT.trans {a b c : St} (h : FineT a b) (k : FineT b c) : FineT a c := ⟨k.1.trans h.1, Nat.le_trans k.2 h.2⟩
theorem FineT.refl (a : St) : FineT a a := ⟨rfl, Nat.le_refl _⟩
def FineE (ex : Par) : Prop := ∀ s : St, FineT s (ex s).2
def FineA (par : ParS) : Prop := ∀ s : St, FineT s (par s).2
def FineL (blk : St → List Sm × St) : Prop := ∀ s : St, FineT s (blk s).2
theorem exprL_fineE (k : Nat) : FineE (exprL k) := fun s => exprL_fine k s.left.length s (Nat.le_refl _)
/-- All that a statement's parser keeps: how deep it is, the tokens' number, that a fault leaves the end alone; behind its first token. -/
structure Neat (s : St) (s' : St) : Prop where
  fine : FineT s s'
  good : Good s → Good s'
theorem Neat.trans {a b c : St} (h : Neat a b) (k : Neat b c) : Neat a c := ⟨h.fine.trans k.fine, fun g => k.good (h.good g)⟩
theorem Neat.refl (a : St) : Neat a a := ⟨.refl a, id⟩
theorem neat_next (s : St) : Neat s s.next := ⟨s.next_fine, St.next_good⟩
theorem neat_must (s : St) (x : List UInt8) : Neat s (s.must x) := ⟨s.must_fine x, fun h => St.must_good h x⟩
theorem neat_want (s : St) (k : Int) : Neat s (s.want k).2 := ⟨s.want_fine k, fun h => St.want_good h k⟩
theorem neat_refuse (s : St) : Neat s s.refuse := ⟨s.fail_fine _ _ _, fun h => St.fail_good h _ _ _⟩
def NeatE (ex : Par) : Prop := ∀ s : St, Neat s (ex s).2
def NeatS (par : ParS) : Prop := ∀ s : St, Neat s (par s).2
def NeatL (blk : St → List Sm × St) : Prop := ∀ s : St, Neat s (blk s).2
theorem exprL_neat (k : Nat) : NeatE (exprL k) := fun s => ⟨exprL_fineE k s, exprL_good k s⟩
theorem answer_neat {ex : Par} (h : NeatE ex) (s : St) : Neat s.next (pAnswer ex s).2 := (h s.next).trans (neat_must _ _)
theorem let_neat {ex : Par} (h : NeatE ex) (s : St) : Neat s.next (pLet ex s).2 := (((neat_want s.next 1).trans (neat_must _ [61])).trans (h _)).trans (neat_must _ [59])
theorem loop_neat {ex : Par} {blk : St → List Sm × St} (h : NeatE ex) (hb : NeatL blk) (s : St) : Neat s.next (pLoop ex blk s).2 := (h s.next).trans (hb _)
theorem choice_neat {ex : Par} {blk oth : St → List Sm × St} (h : NeatE ex) (hb : NeatL blk) (ho : NeatL oth) (s : St) : Neat s.next (pChoice ex blk oth s).2 := by
  unfold pChoice; split
  · exact (((h s.next).trans (hb _)).trans (neat_next _)).trans (ho _)
  · exact (h s.next).trans (hb _)
theorem neat_deeper {s t : St} (h : Neat s.enter t) : Neat s t.leave := by
  have h1 := s.enter_fine
  refine ⟨⟨?_, ?_⟩, fun g => h.good (St.enter_good g)⟩
  · show t.deep - 1 = s.deep
    rw [h.fine.1, h1.1]; omega
  · exact Nat.le_trans h.fine.2 h1.2
theorem other_neat {blk : St → List Sm × St} {ch : ParS} (hb : NeatL blk) (hc : NeatS ch) : NeatL (pOther blk ch) := fun s => by
  unfold pOther; split
  · exact neat_deeper (hc _)
  · exact hb s
theorem plain_neat {ex : Par} (h : NeatE ex) (s : St) : Neat (ex s).2 (pPlain ex s).2 := by
  unfold pPlain
  repeat' split
  · exact neat_must _ _
  · exact ((neat_next _).trans (h _)).trans (neat_must _ _)
  · exact ((neat_next _).trans (h _)).trans (neat_must _ _)
  · exact (neat_refuse _).trans (neat_must _ _)
theorem stmt_neat {ex : Par} {blk : St → List Sm × St} {ch : ParS} (h : NeatE ex) (hb : NeatL blk) (hc : NeatS ch) : NeatS (stmtOf ex blk ch) := fun s => by
  unfold stmtOf pStmt
  repeat' split
  · exact (neat_next s).trans (let_neat h s)
  · exact hc s
  · exact (neat_next s).trans (loop_neat h hb s)
  · exact (neat_next s).trans (answer_neat h s)
  · exact (h s).trans (plain_neat h s)
theorem blockLoop_neat {st : ParS} (h : NeatS st) : ∀ (k : Nat) (l : List Sm) (s : St), Neat s (blockLoop st k l s).2
  | 0, l, s => Neat.refl s
  | k + 1, l, s => by
    rw [blockLoop]; split
    · exact Neat.refl s
    · exact (h s).trans (blockLoop_neat h k _ _)
theorem block_neat {st : ParS} (h : NeatS st) : NeatL (pBlock st) := fun s => (neat_must s [123]).trans (neat_deeper (((blockLoop_neat h _ _ _)).trans (neat_must _ [125])))
theorem choiceNeat {ex : Par} {blk oth : St → List Sm × St} (h : NeatE ex) (hb : NeatL blk) (ho : NeatL oth) : NeatS (pChoice ex blk oth) := fun s => (neat_next s).trans (choice_neat h hb ho s)
theorem steps_neat (n : Nat) : NeatL (stepsL n).1 ∧ NeatS (stepsL n).2 := by
  induction n with
  | zero => exact ⟨fun s => Neat.refl s, fun s => Neat.refl s⟩
  | succ n ih =>
    have hb := block_neat (stmt_neat (exprL_neat n) ih.1 ih.2)
    have hc := choiceNeat (exprL_neat (n + 1)) hb (other_neat hb ih.2)
    rw [stepsL_succ]
    dsimp only
    exact And.intro hb hc

/-- A choice takes its first token. -/
def QuickC (ch : ParS) : Prop := ∀ s : St, 2 ≤ s.left.length → s.now.kind ≠ 0 → (ch s).2.left.length < s.left.length
def QuickS (st : ParS) : Prop := ∀ s : St, Good s → 2 ≤ s.left.length → s.now.kind ≠ 0 → (st s).2.left.length < s.left.length
theorem choice_quick {ex : Par} {blk oth : St → List Sm × St} (h : NeatE ex) (hb : NeatL blk) (ho : NeatL oth) : QuickC (pChoice ex blk oth) := fun s h2 hk => Nat.lt_of_le_of_lt (choice_neat h hb ho s).fine.2 (St.next_lt h2 hk)
theorem stmt_quick {ex : Par} {blk : St → List Sm × St} {ch : ParS} (h : NeatE ex) (hq : Quick ex) (hb : NeatL blk) (hc : QuickC ch) : QuickS (stmtOf ex blk ch) := fun s hg h2 hk => by
  have h3 := St.next_lt h2 hk
  unfold stmtOf pStmt
  repeat' split
  · exact Nat.lt_of_le_of_lt (let_neat h s).fine.2 h3
  · exact hc s h2 hk
  · exact Nat.lt_of_le_of_lt (loop_neat h hb s).fine.2 h3
  · exact Nat.lt_of_le_of_lt (answer_neat h s).fine.2 h3
  · exact Nat.lt_of_le_of_lt (plain_neat h s).fine.2 (hq s hg h2 hk)
def stmtL (n : Nat) : ParS := stmtOf (exprL n) (stepsL n).1 (stepsL n).2
theorem stmtL_neat (n : Nat) : NeatS (stmtL n) := stmt_neat (exprL_neat n) (steps_neat n).1 (steps_neat n).2
theorem steps_quick (n : Nat) : QuickC (stepsL (n + 1)).2 := by
  obtain ⟨h1, h2⟩ := steps_neat n
  have hb := block_neat (stmt_neat (exprL_neat n) h1 h2)
  rw [stepsL_succ]
  dsimp only
  exact choice_quick (exprL_neat (n + 1)) hb (other_neat hb h2)
theorem stmtL_quick (n : Nat) : QuickS (stmtL (n + 1)) :=
  stmt_quick (exprL_neat (n + 1)) (exprL_quick n) (steps_neat (n + 1)).1 (steps_quick n)
end Go.Proofs.YtgnnendcgbijnaaDoor
