/-
  The parser: blocks, choices and statements, whatever the tokens are.
  The parser: what a program's loop keeps.
  The parser: a round of a program's loop; a program in memory.
-/
import Derived.Test.YtaomlahphlemdaaGreatDoorParZc
import Derived.Test.YtaomlahphlemdaaGreatDoorParY
import Derived.Test.YtaomlahphlemdaaGreatDoorParAC
namespace Go.Proofs.YtaomlahphlemdaaGreatDoor
open Go.ChangeShapes Go.WideShapes Go.ChangeAt Go.RowKit
set_option linter.unusedVariables false

/-- An Index has one kid. -/
def One (e : Ex) : Prop := e.kind = 4 → e.kids.length = 1
def OneKid (par : Par) : Prop := ∀ s : St, One (par s).1
theorem joined_one (t : Tok) (a b : Ex) : One (joinedL t a b) := by
  unfold joinedL
  repeat' split
  all_goals exact fun h => by simp [Ex.kind] at h
theorem chainLoop_one {part : Par} (xs : List (List UInt8)) : ∀ (k : Nat) (e : Ex) (s : St), One e → One (chainLoop part xs k e s).1
  | 0, e, s, h => h
  | k + 1, e, s, h => by
    rw [chainLoop]; split
    · exact chainLoop_one xs k _ _ (joined_one _ _ _)
    · exact h
theorem chain_one {part : Par} (hp : OneKid part) (xs : List (List UInt8)) : OneKid (chainL part xs) := fun s => chainLoop_one xs _ _ _ (hp s)
theorem rel_one {part : Par} (hp : OneKid part) : OneKid (pRel part) := fun s => by
  unfold pRel; split
  · exact joined_one _ _ _
  · exact hp s
theorem expr_one {part : Par} (hp : OneKid part) : OneKid (pExpr part) := fun s => chain_one hp orMarks s.enter
theorem named_one (ex : Par) (t : Tok) : OneKid (pNamed ex t) := fun s => by
  unfold pNamed
  repeat' split
  · exact fun _ => rfl
  all_goals exact fun h => by simp [Ex.kind] at h
theorem exprOf_one {u : Par} (hp : OneKid u) : OneKid (pExprOf u) := expr_one (chain_one (rel_one (chain_one (chain_one hp _) _)) _)
theorem unaryStep_one {u : Par} (hp : OneKid u) : OneKid (unaryStep u) := fun s => by
  have h1 := exprOf_one hp s.next
  have h2 := named_one (pExprOf u) s.now s.next
  unfold unaryStep
  repeat' split
  · exact fun h => by simp [Ex.kind] at h
  · exact fun h => by simp [Ex.kind] at h
  · exact h1
  · exact fun h => by simp [Ex.kind] at h
  · exact fun h => by simp [Ex.kind] at h
  · exact fun h => by simp [Ex.kind] at h
  · exact h2
  · exact fun h => by simp [Ex.kind, noEx] at h
theorem pUnary_one (k : Nat) : OneKid (pUnary k) := by
  induction k with
  | zero => exact fun s h => by simp [pUnary, Ex.kind, noEx] at h
  | succ k ih => exact unaryStep_one ih
theorem exprL_eq (n : Nat) : exprL n = pExpr (pAndOf (pUnary n)) := rfl
theorem exprL_one (n : Nat) (s : St) : One (exprL n s).1 := exprOf_one (pUnary_one n) s

theorem stmt_at {R g n : Nat} {blk : St → List Sm × St} {ch : ParS} (hb : BlockOk R g n 93 blk) (hc : ChoiceOk R g n ch) (s : St) (hgd : Good s) (hl : s.left.length ≤ n) (hd : s.deep + 2 * s.left.length + 1 ≤ 300000) : SmAt R g 104 s (stmtOf (exprL n) blk ch s) := by
  have he := expr_all R g n
  have hf := exprL_fine n n
  have hg := exprL_good n
  have ho := exprL_one n
  rw [exprL_eq] at hf hg ho ⊢
  have h1 := s.next_fine
  unfold stmtOf
  refine stmt_any ?_ ?_ ?_ ?_ ?_
  · exact fun w h => let_any he s w hl hd h
  · exact fun w h => hc s w hgd (by omega) (by omega) h
  · exact fun w h => loop_any he hb hf hg s w hgd (by omega) (by omega) h
  · exact fun w h => answer_any he s w (by omega) (by omega) h
  · exact plain_any he hf ho s hl hd
theorem next_ne {R g : Nat} {s : St} {w : World} (h : Reads R g s w) : 1 ≤ s.next.left.length := by
  by_cases hk : s.now.kind = 0
  · unfold St.next; rw [if_pos hk]
    have := h.last.ne
    cases hq : s.left with
    | nil => exact absurd hq this
    | cons => simp
  · have := kind_two h hk
    unfold St.next; rw [if_neg hk]
    simp; omega
theorem steps_all (R g n : Nat) : BlockOk R g n 93 (stepsL n).1 ∧ ChoiceOk R g n (stepsL n).2 := by
  induction n with
  | zero =>
    refine ⟨fun s w _ hl _ h => ?_, fun s w _ hl _ h => ?_⟩
    · exact absurd (List.eq_nil_of_length_eq_zero (by omega)) h.last.ne
    · have := next_ne h; omega
  | succ n ih =>
    have hb : BlockOk R g (n + 1) 93 (pBlock (stmtOf (exprL n) (stepsL n).1 (stepsL n).2)) := by
      refine block_any (fun s hg hl hd => stmt_at ih.1 ih.2 s hg hl hd) (stmtL_neat n) (fun s hl hg h2 hk => ?_)
      obtain ⟨m, rfl⟩ : ∃ m, n = m + 1 := ⟨n - 1, by omega⟩
      exact stmtL_quick m s hg h2 hk
    have hbn := block_neat (stmt_neat (exprL_neat n) (steps_neat n).1 (steps_neat n).2)
    have hcn := (steps_neat n).2
    have ho := otherwise_any hb ih.2 (fun s _ => (hcn s).fine)
    rw [stepsL_succ]
    dsimp only
    refine ⟨hb, fun s w hg hl hd h => ?_⟩
    have he := expr_all R g (n + 1)
    have hf := exprL_fine (n + 1) (n + 1)
    have hgp := exprL_good (n + 1)
    rw [exprL_eq] at hf hgp
    rw [exprL_eq (n + 1)]
    exact choice_any he hb ho hf (fun s _ => (hbn s).fine) hgp (fun s => (hbn s).good) s w hg hl hd h
end Go.Proofs.YtaomlahphlemdaaGreatDoor

namespace Go.Proofs.YtaomlahphlemdaaGreatDoor
open Go.ChangeShapes Go.WideShapes Go.ChangeAt Go.RowKit
set_option linter.unusedVariables false

/-- A program. -/
structure Pr where
  globals : List Gl
  funcs : List Fn
def varL : List UInt8 := [118, 97, 114]
def publicL : List UInt8 := [112, 117, 98, 108, 105, 99]
def secretL : List UInt8 := [115, 101, 99, 114, 101, 116]
def funcL : List UInt8 := [102, 117, 110, 99]
def addG (p : Pr) (x : Gl × St) : Pr × St := (⟨p.globals ++ [x.1], p.funcs⟩, x.2)
def addF (p : Pr) (x : Fn × St) : Pr × St := (⟨p.globals, p.funcs ++ [x.1]⟩, x.2)
def progStep (blk : St → List Sm × St) (p : Pr) (s : St) : Pr × St :=
  if s.now.text = varL then addG p (pGlobal 0 s) else if s.now.text = publicL then addG p (pGlobal 1 s) else if s.now.text = secretL then addG p (pGlobal 2 s)
  else if s.now.text = funcL then addF p (pFunc blk s) else (p, s.refuse)
def progLoop (blk : St → List Sm × St) : Nat → Pr → St → Pr × St
  | 0, p, s => (p, s)
  | k + 1, p, s => if s.now.kind = 0 then (p, s) else progLoop blk k (progStep blk p s).1 (progStep blk p s).2
def pProgram (s : St) : Pr × St := progLoop (stepsL s.left.length).1 s.left.length ⟨[], []⟩ s
theorem progStep_neat {blk : St → List Sm × St} (hb : NeatL blk) (p : Pr) (s : St) : Neat s (progStep blk p s).2 := by
  unfold progStep
  repeat' split
  · exact (neat_next s).trans (global_neat 0 s)
  · exact (neat_next s).trans (global_neat 1 s)
  · exact (neat_next s).trans (global_neat 2 s)
  · exact (neat_next s).trans (func_neat hb s)
  · exact neat_refuse s
theorem progStep_lt {blk : St → List Sm × St} (hb : NeatL blk) (p : Pr) (s : St) (hg : Good s) (h2 : 2 ≤ s.left.length) (hk : s.now.kind ≠ 0) : (progStep blk p s).2.left.length < s.left.length := by
  have h3 := St.next_lt h2 hk
  unfold progStep
  repeat' split
  · exact Nat.lt_of_le_of_lt (global_neat 0 s).fine.2 h3
  · exact Nat.lt_of_le_of_lt (global_neat 1 s).fine.2 h3
  · exact Nat.lt_of_le_of_lt (global_neat 2 s).fine.2 h3
  · exact Nat.lt_of_le_of_lt (func_neat hb s).fine.2 h3
  · exact St.fail_lt hg h2 _ _ _

def AtAllF (w : World) (S : Nat → Prop) : List Fn → List (Array Value) → Prop
  | [], [] => True
  | e :: r, c :: cs => e.At w S c ∧ AtAllF w S r cs
  | _, _ => False
theorem AtAllF.keep {w w' : World} {S S' : Nat → Prop} (hz : w.heap.size ≤ w'.heap.size) (hS : ∀ g, S g → g < w.heap.size → S' g) (hk : ∀ g, S g → g < w.heap.size → ∀ o, w'.cell? ⟨g, o, none⟩ = w.cell? ⟨g, o, none⟩) : ∀ {es : List Fn} {cs : List (Array Value)}, AtAllF w S es cs → AtAllF w' S' es cs
  | [], [], _ => trivial
  | e :: r, c :: cs, h => ⟨h.1.keep hz hS hk, AtAllF.keep hz hS hk h.2⟩
theorem AtAllF.snoc {w : World} {S : Nat → Prop} {e : Fn} {c : Array Value} (he : e.At w S c) : ∀ {es : List Fn} {cs : List (Array Value)}, AtAllF w S es cs → AtAllF w S (es ++ [e]) (cs ++ [c])
  | [], [], _ => ⟨he, trivial⟩
  | e :: r, c :: cs, h => ⟨h.1, AtAllF.snoc he h.2⟩

def zeroP : Array Value := #[.slice none 0 0, .slice none 0 0]
def glCells (l : List Gl) : List Value := l.flatMap fun x => (cellsG x).toList
/-- The program so far, in memory: the answer's place, its box, its two rows. -/
structure ProgIn (w0 w : World) (p : Pr) (gv fv : Value) (css : List (Array Value)) : Prop where
  res : w.heap[w0.heap.size]? = some (.cells zeroP 25 (0, 0))
  box : w.heap[w0.heap.size + 1]? = some (.cells #[gv, fv] 25 (0, 0))
  og : w.ownsRow (w0.heap.size + 2) 51 5 gv p.globals.length (glCells p.globals)
  ow : w.ownsRow (w0.heap.size + 2) 58 5 fv p.funcs.length (css.flatMap Array.toList)
  atf : AtAllF w (fun q => w0.heap.size + 2 ≤ q ∧ gv.ownBlock ≠ some q ∧ fv.ownBlock ≠ some q) p.funcs css
  apart : ∀ b, gv.ownBlock = some b → fv.ownBlock ≠ some b
theorem ProgIn.went {R : Nat} {w0 w w' : World} {p : Pr} {gv fv : Value} {css : List (Array Value)} (h : ProgIn w0 w p gv fv css) (hw : Went R w w') (hR : R < w0.heap.size) : ProgIn w0 w' p gv fv css := by
  have hne : ∀ v : Value, (∀ k, v.ownBlock = some k → w0.heap.size + 2 ≤ k ∧ k < w.heap.size) → v.ownBlock = none ∨ v.ownBlock ≠ some R := fun v hv => by
    cases hb : v.ownBlock with
    | none => exact .inl rfl
    | some b => refine .inr ?_; have := (hv b hb).1; simp; omega
  refine ⟨hw.keep h.res (by omega), hw.keep h.box (by omega), h.og.kept hw (hne _ h.og.lt), h.ow.kept hw (hne _ h.ow.lt), h.atf.keep hw.size (fun q hq _ => hq) (fun q hq hlt o => World.cell?_of_block (hw.block q hlt (by simp; have := hq.1; omega))), h.apart⟩
theorem own_kept {w w' : World} {base : Nat} {t : TypeId} {z n : Nat} {v : Value} {xs : List Value} {row : Option Nat} (h : w.ownsRow base t z v n xs) (hg : w.grownBy w' row) (hne : ∀ b, v.ownBlock = some b → row ≠ some b) : w'.ownsRow base t z v n xs :=
  h.kept hg (by
    cases hb : v.ownBlock with
    | none => exact .inl rfl
    | some b => exact .inr fun e => hne b hb e.symm)
theorem own_set {w : World} {base b j : Nat} {t : TypeId} {z n : Nat} {v u : Value} {xs : List Value} (h : w.ownsRow base t z v n xs) (hb : b < base) : (w.setCell ⟨b, j, none⟩ u).ownsRow base t z v n xs :=
  own_kept h (went_set b j w u) (fun c hc => by have := (h.lt c hc).1; simp; omega)
theorem ProgIn.addG {w0 w9 wB : World} {p : Pr} {gv fv : Value} {css : List (Array Value)} {x : Gl} {o : Obj} {gb gc : Nat} (h : ProgIn w0 w9 p gv fv css)
    (hown : wB.ownsRow (w0.heap.size + 2) 51 5 (.slice (some ⟨gb, 0, none⟩) (p.globals.length + 1) gc) (p.globals.length + 1) (glCells p.globals ++ (cellsG x).toList)) (hgrow : (w9.alloc o).grownBy wB gv.ownBlock) (hat : gv.ownBlock = some gb ∨ gb = w9.heap.size + 1) :
    ProgIn w0 (wB.setCell ⟨w0.heap.size + 1, 0, none⟩ (.slice (some ⟨gb, 0, none⟩) (p.globals.length + 1) gc)) ⟨p.globals ++ [x], p.funcs⟩ (.slice (some ⟨gb, 0, none⟩) (p.globals.length + 1) gc) fv css := by
  have hb9 := (Array.getElem?_eq_some_iff.1 h.box).1
  have hlg := h.og.lt
  have hlf := h.ow.lt
  have hgs := hgrow.size
  simp at hgs
  have hkeep : ∀ q, q < w9.heap.size → gv.ownBlock ≠ some q → wB.heap[q]? = w9.heap[q]? := fun q hq hn => (hgrow.block q (by simp; omega) (fun e => hn e.symm)).trans (Below.heap_alloc _ _ _ hq)
  have hne : ∀ q, q < w0.heap.size + 2 → gv.ownBlock ≠ some q := fun q hq e => by have := (hlg q e).1; omega
  refine ⟨?_, ?_, ?_, ?_, ?_, ?_⟩
  · exact (Below.heap_setCell _ _ _ _ (by show w0.heap.size ≠ w0.heap.size + 1; omega)).trans ((hkeep _ (by omega) (hne _ (by omega))).trans h.res)
  · exact set_block _ _ _ _ _ _ ((hkeep _ hb9 (hne _ (by omega))).trans h.box)
  · refine own_set ?_ (by omega)
    have e1 : glCells (p.globals ++ [x]) = glCells p.globals ++ (cellsG x).toList := by unfold glCells; rw [List.flatMap_append]; simp
    show wB.ownsRow _ _ _ _ (p.globals ++ [x]).length _
    rw [e1, List.length_append]
    exact hown
  · exact own_set (own_kept (h.ow.alloc o) hgrow fun b hb e => h.apart b e hb) (by omega)
  · refine h.atf.keep (by simp; omega) (fun q hq hlt => ?_) (fun q hq hlt o' => ?_)
    · refine ⟨hq.1, ?_, hq.2.2⟩
      rcases hat with hat | hat
      · intro e; have : gb = q := by simpa [Value.ownBlock] using e
        rw [this] at hat; exact hq.2.1 hat
      · simp [Value.ownBlock]; omega
    · rw [World.cell?_of_block (Below.heap_setCell _ _ _ _ (by show q ≠ w0.heap.size + 1; have := hq.1; omega)), World.cell?_of_block (hkeep q hlt hq.2.1)]
  · intro b hb
    have hb' : gb = b := by simpa [Value.ownBlock] using hb
    subst hb'
    rcases hat with hat | hat
    · exact h.apart _ hat
    · intro e; have := (hlf _ e).2; omega
theorem ProgIn.addF {w0 w9 wB : World} {p : Pr} {gv fv : Value} {css : List (Array Value)} {x : Fn} {cx : Array Value} {o : Obj} {gb gc W : Nat} (h : ProgIn w0 w9 p gv fv css) (hx : x.At w9 (W ≤ ·) cx) (hW : ∀ q, gv.ownBlock = some q ∨ fv.ownBlock = some q → q < W) (hW0 : w0.heap.size + 2 ≤ W)
    (hown : wB.ownsRow (w0.heap.size + 2) 58 5 (.slice (some ⟨gb, 0, none⟩) (p.funcs.length + 1) gc) (p.funcs.length + 1) (css.flatMap Array.toList ++ cx.toList)) (hgrow : (w9.alloc o).grownBy wB fv.ownBlock) (hat : fv.ownBlock = some gb ∨ gb = w9.heap.size + 1) :
    ProgIn w0 (wB.setCell ⟨w0.heap.size + 1, 1, none⟩ (.slice (some ⟨gb, 0, none⟩) (p.funcs.length + 1) gc)) ⟨p.globals, p.funcs ++ [x]⟩ gv (.slice (some ⟨gb, 0, none⟩) (p.funcs.length + 1) gc) (css ++ [cx]) := by
  have hb9 := (Array.getElem?_eq_some_iff.1 h.box).1
  have hlg := h.og.lt
  have hlf := h.ow.lt
  have hgs := hgrow.size
  simp at hgs
  have hkeep : ∀ q, q < w9.heap.size → fv.ownBlock ≠ some q → wB.heap[q]? = w9.heap[q]? := fun q hq hn => (hgrow.block q (by simp; omega) (fun e => hn e.symm)).trans (Below.heap_alloc _ _ _ hq)
  have hne : ∀ q, q < w0.heap.size + 2 → fv.ownBlock ≠ some q := fun q hq e => by have := (hlf q e).1; omega
  refine ⟨?_, ?_, ?_, ?_, ?_, ?_⟩
  · exact (Below.heap_setCell _ _ _ _ (by show w0.heap.size ≠ w0.heap.size + 1; omega)).trans ((hkeep _ (by omega) (hne _ (by omega))).trans h.res)
  · exact set_block _ _ _ _ _ _ ((hkeep _ hb9 (hne _ (by omega))).trans h.box)
  · exact own_set (own_kept (h.og.alloc o) hgrow fun b hb e => h.apart b hb e) (by omega)
  · refine own_set ?_ (by omega)
    have e1 : (css ++ [cx]).flatMap Array.toList = css.flatMap Array.toList ++ cx.toList := by rw [List.flatMap_append]; simp
    show wB.ownsRow _ _ _ _ (p.funcs ++ [x]).length _
    rw [e1, List.length_append]
    exact hown
  · refine AtAllF.snoc ?_ ?_
    · refine hx.keep (by simp; omega) (fun q hq hlt => ?_) (fun q hq hlt o' => ?_)
      · have hq' : W ≤ q := hq
        refine ⟨by omega, fun e => by have := hW q (.inl e); omega, ?_⟩
        rcases hat with hat | hat
        · have := hW gb (.inr hat); simp [Value.ownBlock]; omega
        · simp [Value.ownBlock]; omega
      · have hq' : W ≤ q := hq
        rw [World.cell?_of_block (Below.heap_setCell _ _ _ _ (by show q ≠ w0.heap.size + 1; omega)), World.cell?_of_block (hkeep q hlt (fun e => by have := hW q (.inr e); omega))]
    · refine h.atf.keep (by simp; omega) (fun q hq hlt => ?_) (fun q hq hlt o' => ?_)
      · refine ⟨hq.1, hq.2.1, ?_⟩
        rcases hat with hat | hat
        · intro e; have : gb = q := by simpa [Value.ownBlock] using e
          rw [this] at hat; exact hq.2.2 hat
        · simp [Value.ownBlock]; omega
      · rw [World.cell?_of_block (Below.heap_setCell _ _ _ _ (by show q ≠ w0.heap.size + 1; have := hq.1; omega)), World.cell?_of_block (hkeep q hlt hq.2.2)]
  · intro b hb e
    have hb' : gb = b := by simpa [Value.ownBlock] using e
    subst hb'
    rcases hat with hat | hat
    · exact h.apart _ hb hat
    · have := (hlg _ hb).2; omega
theorem infoGlobal : (Tryz.prog.info? 51).map (fun i => (i.zero, i.size, i.bytes)) = some (some (.agg zeroG), 5, 48) := by kernel_rfl
theorem infoFunc : (Tryz.prog.info? 58).map (fun i => (i.zero, i.size, i.bytes)) = some (some (.agg zeroF), 5, 80) := by kernel_rfl
theorem five_oneG (x : ByteArray) (a b c d : Int) : ∀ u ∈ [Value.string x, .int .i64 a, .int .i64 b, .int .i64 c, .int .i64 d], u.oneCell' = true := by
  intro u hu
  simp only [List.mem_cons, List.not_mem_nil, or_false] at hu
  rcases hu with rfl | rfl | rfl | rfl | rfl <;> rfl
theorem five_oneF (x : ByteArray) (p : Option Addr) (q r : Nat) (p2 : Option Addr) (q2 r2 : Nat) (a b : Int) : ∀ u ∈ [Value.string x, .slice p q r, .slice p2 q2 r2, .int .i64 a, .int .i64 b], u.oneCell' = true := by
  intro u hu
  simp only [List.mem_cons, List.not_mem_nil, or_false] at hu
  rcases hu with rfl | rfl | rfl | rfl | rfl <;> rfl
end Go.Proofs.YtaomlahphlemdaaGreatDoor

namespace Go.Proofs.YtaomlahphlemdaaGreatDoor
open Go.ChangeShapes Go.WideShapes Go.ChangeAt Go.RowKit
set_option linter.unusedVariables false

structure ProgRow (R g N : Nat) (blk : St → List Sm × St) (goal : Pr × St) (d : Int) (w0 w : World) : Prop where
  went : Went R w0 w
  now : ∃ (k : Nat) (p : Pr) (s : St) (ga : Option Addr) (gc : Nat) (fa : Option Addr) (fc : Nat) (css : List (Array Value)), ProgIn w0 w p (.slice ga p.globals.length gc) (.slice fa p.funcs.length fc) css ∧ Reads R g s w ∧ Good s ∧ s.left.length ≤ k ∧ s.left.length ≤ N ∧ p.globals.length + p.funcs.length + s.left.length ≤ N ∧ s.deep = d ∧ progLoop blk k p s = goal
theorem two {w : World} {b : Nat} {c0 c1 : Value} {t : TypeId} (h : w.heap[b]? = some (.cells #[c0, c1] t (0, 0))) :
    (w.cell? ⟨b, 0, none⟩ = some c0 ∧ w.cell? ⟨b, 1, none⟩ = some c1) ∧ w.frozen? ⟨b, 0, none⟩ = false ∧ w.frozen? ⟨b, 1, none⟩ = false := by
  refine ⟨⟨?_, ?_⟩, Lib.frozen_of_heap h 0, Lib.frozen_of_heap h 1⟩ <;> (rw [Lib.cell_of_heap h]; rfl)
theorem box_after {w0 w9 wB : World} {p : Pr} {gv fv : Value} {css : List (Array Value)} {o : Obj} {row : Option Nat} (h : ProgIn w0 w9 p gv fv css) (hg : (w9.alloc o).grownBy wB row) (hrow : ∀ b, row = some b → w0.heap.size + 2 ≤ b) : wB.heap[w0.heap.size + 1]? = some (.cells #[gv, fv] 25 (0, 0)) ∧ w9.heap.size ≤ wB.heap.size := by
  have hb9 := (Array.getElem?_eq_some_iff.1 h.box).1
  have hgs := hg.size
  simp at hgs
  exact ⟨(hg.block _ (by simp; omega) (fun e => by have := hrow _ e.symm; omega)).trans ((Below.heap_alloc _ _ _ hb9).trans h.box), by omega⟩
theorem prog_g {R g : Nat} {w0 W : World} {p : Pr} {gv fv : Value} {css : List (Array Value)} {s2 : St} (hP : ProgIn w0 W p gv fv css) (hw : Went R w0 W) (hr : Reads R g s2 W) (hR : R < w0.heap.size) (hd : Int) : ∀ wx, W.grownBy wx none → Calls Tryz.prog 60 #[.pointer (some ⟨R, 0, none⟩), .int .i64 hd] wx (fun e' w9 =>
    ∃ n h z l c, e' = .returned (.agg #[.string ⟨n.toArray⟩, .int .i64 h, .int .i64 z, .int .i64 l, .int .i64 c]) ∧ (pGlobal hd s2).1 = ⟨n, h, z, l, c⟩ ∧ ProgIn w0 w9 p gv fv css ∧ Went R w0 w9 ∧ Reads R g (pGlobal hd s2).2 w9 ∧ W.heap.size ≤ w9.heap.size) := by
  intro wx hg
  refine (global_any R g hd s2 wx (hr.more hg)).mono ?_
  rintro e' w9 ⟨rfl, hw9, hr9⟩
  have hwt := (went_none hg).trans hw9
  exact ⟨_, _, _, _, _, rfl, rfl, hP.went hwt hR, hw.trans hwt, hr9, hwt.size⟩
theorem prog_f {R g n : Nat} {blk : St → List Sm × St} {w0 W : World} {p : Pr} {gv fv : Value} {css : List (Array Value)} {s2 : St} (hb : BlockOk R g n 93 blk) (hgd : Good s2) (hl : s2.left.length ≤ n) (hd : s2.deep + 2 * s2.left.length + 1 ≤ 300000) (hP : ProgIn w0 W p gv fv css) (hw : Went R w0 W) (hr : Reads R g s2 W) (hR : R < w0.heap.size) : ∀ wx, W.grownBy wx none → Calls Tryz.prog 61 #[.pointer (some ⟨R, 0, none⟩)] wx (fun e' w9 =>
    ∃ n a b c d e g' l k, e' = .returned (.agg #[.string ⟨n.toArray⟩, .slice a b c, .slice d e g', .int .i64 l, .int .i64 k]) ∧ (pFunc blk s2).1.At w9 (W.heap.size ≤ ·) (cellsF n (.slice a b c) (.slice d e g') l k) ∧ ProgIn w0 w9 p gv fv css ∧ Went R w0 w9 ∧ Reads R g (pFunc blk s2).2 w9 ∧ W.heap.size ≤ w9.heap.size) := by
  intro wx hg
  refine (function_any hb s2 wx hgd hl hd (hr.more hg)).mono ?_
  rintro e' w9 ⟨cs, rfl, hat, hw9, hr9⟩
  have hwt := (went_none hg).trans hw9
  have hgs := hg.size
  obtain ⟨n, a, b, c, d, e, g', l, k, rfl⟩ := hat.cells
  refine ⟨n, a, b, c, d, e, g', l, k, rfl, hat.keep (Nat.le_refl _) (fun q hq _ => ?_) (fun _ _ _ _ => rfl), hP.went hwt hR, hw.trans hwt, hr9, hwt.size⟩
  have h9 : wx.heap.size ≤ q := hq
  show W.heap.size ≤ q
  omega
theorem own_lo {w : World} {base : Nat} {t : TypeId} {z n : Nat} {v : Value} {xs : List Value} (h : w.ownsRow base t z v n xs) : ∀ b, v.ownBlock = some b → base ≤ b := fun b hb => (h.lt b hb).1
theorem round_g {R g N k : Nat} {blk : St → List Sm × St} {goal : Pr × St} {d : Int} {w0 w9 wB : World} {p : Pr} {ga fa : Option Addr} {gc fc gb gc' : Nat} {css : List (Array Value)} {s2 : St} {hd : Int} {x : Gl} {o : Obj} (hb : NeatL blk) (hP : ProgIn w0 w9 p (.slice ga p.globals.length gc) (.slice fa p.funcs.length fc) css) (hw : Went R w0 w9) (hr : Reads R g (pGlobal hd s2).2 w9) (hR : R < w0.heap.size) (hx : (pGlobal hd s2).1 = x)
    (hown : wB.ownsRow (w0.heap.size + 2) 51 5 (.slice (some ⟨gb, 0, none⟩) (p.globals.length + 1) gc') (p.globals.length + 1) (glCells p.globals ++ (cellsG x).toList)) (hgrow : (w9.alloc o).grownBy wB (Value.slice ga p.globals.length gc).ownBlock) (hat : (Value.slice ga p.globals.length gc).ownBlock = some gb ∨ gb = w9.heap.size + 1)
    (hgd : Good s2) (hstep : progStep blk p s2 = addG p (pGlobal hd s2)) (hk : s2.now.kind ≠ 0) (h2 : 2 ≤ s2.left.length) (hlk : s2.left.length ≤ k + 1) (hln : s2.left.length ≤ N) (hes : p.globals.length + p.funcs.length + s2.left.length ≤ N) (hdd : s2.deep = d) (hgo : progLoop blk (k + 1) p s2 = goal) :
    ProgRow R g N blk goal d w0 (wB.setCell ⟨w0.heap.size + 1, 0, none⟩ (.slice (some ⟨gb, 0, none⟩) (p.globals.length + 1) gc')) ∧ lenOf (wB.setCell ⟨w0.heap.size + 1, 0, none⟩ (.slice (some ⟨gb, 0, none⟩) (p.globals.length + 1) gc')) R < s2.left.length := by
  have hn := progStep_neat hb p s2
  have hlt := progStep_lt hb p s2 hgd h2 hk
  rw [hstep] at hn hlt
  have hlt' : (pGlobal hd s2).2.left.length < s2.left.length := hlt
  have hlo := own_lo hP.og
  have hr' : Reads R g (pGlobal hd s2).2 (wB.setCell ⟨w0.heap.size + 1, 0, none⟩ (.slice (some ⟨gb, 0, none⟩) (p.globals.length + 1) gc')) := ((hr.alloc o).rowO hgrow fun b hb => by have := hlo b hb; omega).set _ _ (by omega)
  have hw' : Went R w0 wB := went_rowO (went_alloc hw o) hgrow fun b hb => by have := hlo b hb; omega
  refine ⟨⟨went_new hw' _ _ (by omega), k, ⟨p.globals ++ [x], p.funcs⟩, (pGlobal hd s2).2, some ⟨gb, 0, none⟩, gc', fa, fc, css, ?_, hr', hn.good hgd, by omega, by omega, by simp; omega, by rw [← hdd]; exact hn.fine.1, ?_⟩, by rw [lenOf_reads hr']; exact hlt'⟩
  · have := ProgIn.addG hP hown hgrow hat
    simpa using this
  · rw [← hgo, progLoop, if_neg hk, hstep]
    unfold addG
    rw [hx]
theorem round_f {R g N k Wz : Nat} {blk : St → List Sm × St} {goal : Pr × St} {d : Int} {w0 w9 wB : World} {p : Pr} {ga fa : Option Addr} {gc fc gb gc' : Nat} {css : List (Array Value)} {s2 : St} {cx : Array Value} {o : Obj} (hb : NeatL blk) (hP : ProgIn w0 w9 p (.slice ga p.globals.length gc) (.slice fa p.funcs.length fc) css) (hw : Went R w0 w9) (hr : Reads R g (pFunc blk s2).2 w9) (hR : R < w0.heap.size) (hx : (pFunc blk s2).1.At w9 (Wz ≤ ·) cx)
    (hW : ∀ q, (Value.slice ga p.globals.length gc).ownBlock = some q ∨ (Value.slice fa p.funcs.length fc).ownBlock = some q → q < Wz) (hW0 : w0.heap.size + 2 ≤ Wz)
    (hown : wB.ownsRow (w0.heap.size + 2) 58 5 (.slice (some ⟨gb, 0, none⟩) (p.funcs.length + 1) gc') (p.funcs.length + 1) (css.flatMap Array.toList ++ cx.toList)) (hgrow : (w9.alloc o).grownBy wB (Value.slice fa p.funcs.length fc).ownBlock) (hat : (Value.slice fa p.funcs.length fc).ownBlock = some gb ∨ gb = w9.heap.size + 1)
    (hgd : Good s2) (hstep : progStep blk p s2 = addF p (pFunc blk s2)) (hk : s2.now.kind ≠ 0) (h2 : 2 ≤ s2.left.length) (hlk : s2.left.length ≤ k + 1) (hln : s2.left.length ≤ N) (hes : p.globals.length + p.funcs.length + s2.left.length ≤ N) (hdd : s2.deep = d) (hgo : progLoop blk (k + 1) p s2 = goal) :
    ProgRow R g N blk goal d w0 (wB.setCell ⟨w0.heap.size + 1, 1, none⟩ (.slice (some ⟨gb, 0, none⟩) (p.funcs.length + 1) gc')) ∧ lenOf (wB.setCell ⟨w0.heap.size + 1, 1, none⟩ (.slice (some ⟨gb, 0, none⟩) (p.funcs.length + 1) gc')) R < s2.left.length := by
  have hn := progStep_neat hb p s2
  have hlt := progStep_lt hb p s2 hgd h2 hk
  rw [hstep] at hn hlt
  have hlt' : (pFunc blk s2).2.left.length < s2.left.length := hlt
  have hlo := own_lo hP.ow
  have hr' : Reads R g (pFunc blk s2).2 (wB.setCell ⟨w0.heap.size + 1, 1, none⟩ (.slice (some ⟨gb, 0, none⟩) (p.funcs.length + 1) gc')) := ((hr.alloc o).rowO hgrow fun b hb => by have := hlo b hb; omega).set _ _ (by omega)
  have hw' : Went R w0 wB := went_rowO (went_alloc hw o) hgrow fun b hb => by have := hlo b hb; omega
  refine ⟨⟨went_new hw' _ _ (by omega), k, ⟨p.globals, p.funcs ++ [(pFunc blk s2).1]⟩, (pFunc blk s2).2, ga, gc, some ⟨gb, 0, none⟩, gc', css ++ [cx], ?_, hr', hn.good hgd, by omega, by omega, by simp; omega, by rw [← hdd]; exact hn.fine.1, ?_⟩, by rw [lenOf_reads hr']; exact hlt'⟩
  · have := ProgIn.addF hP hx hW hW0 hown hgrow hat
    simpa using this
  · rw [← hgo, progLoop, if_neg hk, hstep]
    rfl
theorem round_n {R g N k : Nat} {blk : St → List Sm × St} {goal : Pr × St} {d : Int} {w0 w9 : World} {p : Pr} {ga fa : Option Addr} {gc fc : Nat} {css : List (Array Value)} {s2 : St} (hb : NeatL blk) (hP : ProgIn w0 w9 p (.slice ga p.globals.length gc) (.slice fa p.funcs.length fc) css) (hw : Went R w0 w9) (hr : Reads R g s2.refuse w9)
    (hgd : Good s2) (hstep : progStep blk p s2 = (p, s2.refuse)) (hk : s2.now.kind ≠ 0) (h2 : 2 ≤ s2.left.length) (hlk : s2.left.length ≤ k + 1) (hln : s2.left.length ≤ N) (hes : p.globals.length + p.funcs.length + s2.left.length ≤ N) (hdd : s2.deep = d) (hgo : progLoop blk (k + 1) p s2 = goal) :
    ProgRow R g N blk goal d w0 w9 ∧ lenOf w9 R < s2.left.length := by
  have hn := progStep_neat hb p s2
  have hlt := progStep_lt hb p s2 hgd h2 hk
  rw [hstep] at hn hlt
  have hlt' : s2.refuse.left.length < s2.left.length := hlt
  refine ⟨⟨hw, k, p, s2.refuse, ga, gc, fa, fc, css, hP, hr, hn.good hgd, by omega, by omega, by omega, by rw [← hdd]; exact hn.fine.1, ?_⟩, by rw [lenOf_reads hr]; exact hlt'⟩
  rw [← hgo, progLoop, if_neg hk, hstep]

/-- Globals, as a slice. -/
def GlsAt (w : World) (S : Nat → Prop) (l : List Gl) (v : Value) : Prop :=
  (l = [] ∧ ∃ a cap, v = .slice a 0 cap) ∨ (l ≠ [] ∧ ∃ g o cap, v = .slice (some ⟨g, o, none⟩) l.length cap ∧ S g ∧ g < w.heap.size ∧ l.length ≤ cap ∧ l.length ≤ 4611686018427387904 ∧ ∀ (j : Nat) (x : Gl), l[j]? = some x → ∀ i, i < 5 → w.cell? ⟨g, o + (5 * j + i), none⟩ = (cellsG x)[i]?)
/-- Functions, as a slice. -/
def FnsAt (w : World) (S : Nat → Prop) (l : List Fn) (v : Value) : Prop :=
  (l = [] ∧ ∃ a cap, v = .slice a 0 cap) ∨ (l ≠ [] ∧ ∃ g o cap, v = .slice (some ⟨g, o, none⟩) l.length cap ∧ S g ∧ g < w.heap.size ∧ l.length ≤ cap ∧ l.length ≤ 4611686018427387904 ∧ ∀ (j : Nat) (f : Fn), l[j]? = some f → ∃ cs, f.At w S cs ∧ ∀ i, i < 5 → w.cell? ⟨g, o + (5 * j + i), none⟩ = cs[i]?)
def Pr.At (p : Pr) (w : World) (S : Nat → Prop) (cs : Array Value) : Prop := ∃ gv fv, cs = #[gv, fv] ∧ GlsAt w S p.globals gv ∧ FnsAt w S p.funcs fv
theorem GlsAt.keep {w w' : World} {S S' : Nat → Prop} (hz : w.heap.size ≤ w'.heap.size) (hS : ∀ g, S g → g < w.heap.size → S' g) (hk : ∀ g, S g → g < w.heap.size → ∀ o, w'.cell? ⟨g, o, none⟩ = w.cell? ⟨g, o, none⟩) {l : List Gl} {v : Value} (h : GlsAt w S l v) : GlsAt w' S' l v := by
  rcases h with h | ⟨hne, g, o, cap, rfl, hg, hlt, h1, h2, h3⟩
  · exact .inl h
  · exact .inr ⟨hne, g, o, cap, rfl, hS g hg hlt, by omega, h1, h2, fun j x hj i hi => (hk g hg hlt _).trans (h3 j x hj i hi)⟩
theorem FnsAt.keep {w w' : World} {S S' : Nat → Prop} (hz : w.heap.size ≤ w'.heap.size) (hS : ∀ g, S g → g < w.heap.size → S' g) (hk : ∀ g, S g → g < w.heap.size → ∀ o, w'.cell? ⟨g, o, none⟩ = w.cell? ⟨g, o, none⟩) {l : List Fn} {v : Value} (h : FnsAt w S l v) : FnsAt w' S' l v := by
  rcases h with h | ⟨hne, g, o, cap, rfl, hg, hlt, h1, h2, h3⟩
  · exact .inl h
  · refine .inr ⟨hne, g, o, cap, rfl, hS g hg hlt, by omega, h1, h2, fun j x hj => ?_⟩
    obtain ⟨cs, hat, hc⟩ := h3 j x hj
    exact ⟨cs, hat.keep hz hS hk, fun i hi => (hk g hg hlt _).trans (hc i hi)⟩
theorem Pr.At.keep {w w' : World} {S S' : Nat → Prop} (hz : w.heap.size ≤ w'.heap.size) (hS : ∀ g, S g → g < w.heap.size → S' g) (hk : ∀ g, S g → g < w.heap.size → ∀ o, w'.cell? ⟨g, o, none⟩ = w.cell? ⟨g, o, none⟩) {p : Pr} {cs : Array Value} (h : p.At w S cs) : p.At w' S' cs := by
  obtain ⟨gv, fv, rfl, h1, h2⟩ := h
  exact ⟨gv, fv, rfl, h1.keep hz hS hk, h2.keep hz hS hk⟩
theorem flat5 {α : Type} (f : α → List Value) : ∀ (l : List α) (hf : ∀ x ∈ l, (f x).length = 5) (j : Nat) (x : α) (i : Nat), l[j]? = some x → i < 5 → (l.flatMap f)[5 * j + i]? = (f x)[i]?
  | [], _, j, x, i, h, _ => by simp at h
  | y :: r, hf, 0, x, i, h, hi => by
    simp at h; subst h
    rw [List.flatMap_cons, Nat.mul_zero, Nat.zero_add, List.getElem?_append_left (by rw [hf y (by simp)]; exact hi)]
  | y :: r, hf, j + 1, x, i, h, hi => by
    have hy := hf y (by simp)
    rw [List.flatMap_cons, List.getElem?_append_right (by omega), hy, show 5 * (j + 1) + i - 5 = 5 * j + i by omega]
    exact flat5 f r (fun z hz => hf z (by simp [hz])) j x i (by simpa using h) hi
theorem AtAllF.get {w : World} {S : Nat → Prop} : ∀ {es : List Fn} {cs : List (Array Value)}, AtAllF w S es cs → ∀ (j : Nat) (f : Fn), es[j]? = some f → ∃ c, cs[j]? = some c ∧ f.At w S c
  | [], [], _, j, f, hj => by simp at hj
  | e :: r, c :: cs, h, 0, f, hj => by simp at hj; subst hj; exact ⟨c, rfl, h.1⟩
  | e :: r, c :: cs, h, j + 1, f, hj => by simpa using AtAllF.get h.2 j f (by simpa using hj)
theorem AtAllF.five {w : World} {S : Nat → Prop} : ∀ {es : List Fn} {cs : List (Array Value)}, AtAllF w S es cs → ∀ c ∈ cs, c.toList.length = 5
  | [], [], _, c, hc => by simp at hc
  | e :: r, c0 :: cs, h, c, hc => by
    simp at hc
    rcases hc with rfl | hc
    · obtain ⟨_, _, _, _, _, _, _, _, _, rfl⟩ := h.1.cells; rfl
    · exact AtAllF.five h.2 c hc
theorem own_form {w : World} {base : Nat} {t : TypeId} {z n : Nat} {v : Value} {xs : List Value} (h : w.ownsRow base t z v n xs) : (n = 0 ∧ v = .slice none 0 0) ∨ ∃ b cap, v = .slice (some ⟨b, 0, none⟩) n cap ∧ base ≤ b ∧ b < w.heap.size ∧ n ≤ cap := by
  rcases h.2 with ⟨hv, h0⟩ | ⟨b, cap, cur, hv, hb, hg, hle, _⟩
  · exact .inl ⟨h0, hv⟩
  · exact .inr ⟨b, cap, hv, hb, (Array.getElem?_eq_some_iff.1 hg).1, hle⟩
theorem prAt_of {w0 w : World} {p : Pr} {gv fv : Value} {css : List (Array Value)} (h : ProgIn w0 w p gv fv css) (hl : p.globals.length + p.funcs.length ≤ 65537) : p.At w (fun q => w0.heap.size + 2 ≤ q) #[gv, fv] := by
  refine ⟨gv, fv, rfl, ?_, ?_⟩
  · rcases own_form h.og with ⟨h0, hv⟩ | ⟨b, cap, hv, hb, hlt, hle⟩
    · exact .inl ⟨List.eq_nil_of_length_eq_zero h0, _, _, hv⟩
    · by_cases hn : p.globals = []
      · exact .inl ⟨hn, _, _, by rw [hv, hn]; rfl⟩
      · refine .inr ⟨hn, b, 0, cap, hv, hb, hlt, hle, by omega, fun j x hj i hi => ?_⟩
        have e1 := flat5 (fun x => (cellsG x).toList) p.globals (fun _ _ => rfl) j x i hj hi
        have hi2 : (cellsG x).toList[i]? = some ((cellsG x).toList[i]'(by show i < 5; exact hi)) := List.getElem?_eq_getElem _
        have := h.og.cells (g := b) (by rw [hv]; rfl) (5 * j + i) _ (e1.trans hi2)
        rw [Go.WideShapes.add_plain] at this
        rw [this, ← hi2]; simp
  · rcases own_form h.ow with ⟨h0, hv⟩ | ⟨b, cap, hv, hb, hlt, hle⟩
    · exact .inl ⟨List.eq_nil_of_length_eq_zero h0, _, _, hv⟩
    · by_cases hn : p.funcs = []
      · exact .inl ⟨hn, _, _, by rw [hv, hn]; rfl⟩
      · refine .inr ⟨hn, b, 0, cap, hv, hb, hlt, hle, by omega, fun j f hj => ?_⟩
        obtain ⟨c, hc, hat⟩ := h.atf.get j f hj
        refine ⟨c, hat.keep (Nat.le_refl _) (fun q hq _ => hq.1) (fun _ _ _ _ => rfl), fun i hi => ?_⟩
        have h5 := h.atf.five c (List.mem_of_getElem? hc)
        have e1 := flat5 Array.toList css h.atf.five j c i hc hi
        have hi2 : c.toList[i]? = some (c.toList[i]'(by omega)) := List.getElem?_eq_getElem _
        have := h.ow.cells (g := b) (by rw [hv]; rfl) (5 * j + i) _ (e1.trans hi2)
        rw [Go.WideShapes.add_plain] at this
        rw [this, ← hi2]; simp
def ProgPost (R g : Nat) (p : Pr × St) (w : World) (e : Ending) (w' : World) : Prop := ∃ cs, e = .returned (.agg cs) ∧ p.1.At w' (w.heap.size ≤ ·) cs ∧ Went R w w' ∧ Reads R g p.2 w'
end Go.Proofs.YtaomlahphlemdaaGreatDoor
