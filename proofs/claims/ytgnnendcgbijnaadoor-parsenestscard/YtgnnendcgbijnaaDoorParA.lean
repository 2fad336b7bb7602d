/-
  The parser's reader, as Go's memory holds it; what its small functions do.
-/
import Derived.Test.YtgnnendcgbijnaaDoorAstF
import Derived.Test.YtgnnendcgbijnaaDoorLexG
import Derived.StillTailTactics
namespace Go.Proofs.YtgnnendcgbijnaaDoor
open Go.ChangeShapes Go.WideShapes Go.ChangeAt Go.RowKit
set_option linter.unusedVariables false

/-- What a reader holds: the tokens left, how deep it is, the fault. -/
structure St where
  left : List Tok
  deep : Int
  err : Int
  line : Int
  col : Int

def noTok : Tok := ⟨0, [], 0, 0, 0⟩
def St.now (s : St) : Tok := s.left.headD noTok
def St.next (s : St) : St := if s.now.kind = 0 then s else { s with left := s.left.drop 1 }
def St.sees (s : St) (xs : List (List UInt8)) : Bool := decide (s.now.text ∈ xs)
def St.fail (s : St) (e l c : Int) : St := if s.err = 0 then { left := s.left.drop (s.left.length - 1), deep := s.deep, err := e, line := l, col := c } else s
def St.refuse (s : St) : St := s.fail 12 s.now.line s.now.col
def St.must (s : St) (x : List UInt8) : St := if s.sees [x] then s.next else s.refuse
def St.enter (s : St) : St := let t := if 200 ≤ s.deep then s.fail 13 s.now.line s.now.col else s; { t with deep := t.deep + 1 }
def St.leave (s : St) : St := { s with deep := s.deep - 1 }

/-- What is of the end's kind has no text; numbers are of 64 bits. -/
def TokOk (t : Tok) : Prop := (t.kind = 0 → t.text = []) ∧ InI64 t.num
/-- The last token is the end; all are as they should be. -/
def LastEnd (l : List Tok) : Prop := (∃ a e, l = a ++ [e] ∧ e.kind = 0) ∧ ∀ t ∈ l, TokOk t
theorem LastEnd.ne {l : List Tok} (h : LastEnd l) : l ≠ [] := by obtain ⟨⟨a, e, rfl, _⟩, _⟩ := h; simp
theorem LastEnd.drop {l : List Tok} (h : LastEnd l) (k : Nat) (hk : k < l.length) : LastEnd (l.drop k) := by
  obtain ⟨⟨a, e, rfl, he⟩, ht⟩ := h
  refine ⟨⟨a.drop k, e, ?_, he⟩, fun t hm => ht t (List.mem_of_mem_drop hm)⟩
  rw [List.drop_append_of_le_length (by simp at hk; omega)]
theorem LastEnd.two {t : Tok} {r : List Tok} (h : LastEnd (t :: r)) (hk : t.kind ≠ 0) : r ≠ [] := by
  rintro rfl
  obtain ⟨⟨a, e, h, he⟩, _⟩ := h
  cases a with
  | nil => simp at h; rw [h] at hk; exact hk he
  | cons x y => simp at h

def TokRow (w : World) (g o : Nat) (l : List Tok) : Prop := ∀ (i : Nat) (t : Tok), l[i]? = some t → w.cell? ⟨g, o + 5 * i, none⟩ = some (.int .i64 t.kind) ∧ w.cell? ⟨g, o + 5 * i + 1, none⟩ = some (.string ⟨t.text.toArray⟩) ∧ w.cell? ⟨g, o + 5 * i + 2, none⟩ = some (.int .i64 t.num) ∧
  w.cell? ⟨g, o + 5 * i + 3, none⟩ = some (.int .i64 t.line) ∧ w.cell? ⟨g, o + 5 * i + 4, none⟩ = some (.int .i64 t.col)
theorem TokRow.drop {w : World} {g o : Nat} {l : List Tok} (h : TokRow w g o l) (k : Nat) : TokRow w g (o + 5 * k) (l.drop k) := by
  intro i t ht
  rw [List.getElem?_drop] at ht
  have e : o + 5 * k + 5 * i = o + 5 * (k + i) := by omega
  rw [e]; exact h _ t ht
theorem TokRow.keep {w w' : World} {g o : Nat} {l : List Tok} (h : TokRow w g o l) (hc : ∀ p, w'.cell? ⟨g, p, none⟩ = w.cell? ⟨g, p, none⟩) : TokRow w' g o l := fun i t ht => by simp only [hc]; exact h i t ht

def cellsR (g o n cap : Nat) (s : St) : Array Value := #[.slice (some ⟨g, o, none⟩) n cap, .int .i64 s.deep, .int .i64 s.err, .int .i64 s.line, .int .i64 s.col]
/-- The reader in block R, its tokens in block g. -/
structure Reads (R g : Nat) (s : St) (w : World) : Prop where
  lt : g < R
  row : ∃ o cap, w.heap[R]? = some (.cells (cellsR g o s.left.length cap s) 58 (0, 0)) ∧ s.left.length ≤ cap ∧ TokRow w g o s.left
  last : LastEnd s.left
  len : s.left.length ≤ 65537
  deep : 0 ≤ s.deep ∧ s.deep ≤ 400000
  low : 1 < R
  signs : Signs w

theorem Signs.keep {w w' : World} (h : Signs w) (hs : w.heap.size ≤ w'.heap.size) (hc : ∀ p, w'.cell? ⟨1, p, none⟩ = w.cell? ⟨1, p, none⟩) : Signs w' :=
  ⟨Nat.lt_of_lt_of_le h.1 hs, fun j x hj => (hc j).trans (h.2 j x hj)⟩
theorem Reads.size {R g : Nat} {s : St} {w : World} (h : Reads R g s w) : R < w.heap.size := by
  obtain ⟨o, cap, h1, _⟩ := h.row
  exact (Array.getElem?_eq_some_iff.1 h1).1
/-- Nothing but the reader's own block has turned. -/
abbrev Went (R : Nat) (w w' : World) : Prop := w.grownBy w' (some R)
theorem Went.trans {R : Nat} {a b c : World} (h : Went R a b) (k : Went R b c) : Went R a c :=
  ⟨k.os.trans h.os, k.tape.trans h.tape, k.output.trans h.output, Nat.le_trans h.size k.size, fun j hj hne => (k.block j (Nat.lt_of_lt_of_le hj h.size) hne).trans (h.block j hj hne)⟩
theorem Reads.more {R g : Nat} {s : St} {w w' : World} (h : Reads R g s w) (hg : w.grownBy w' none) : Reads R g s w' := by
  have hR := h.size
  obtain ⟨o, cap, h1, h2, h3⟩ := h.row
  exact ⟨h.lt, ⟨o, cap, (hg.block R hR (by simp)).trans h1, h2, h3.keep fun p => World.cell?_of_block (hg.block g (by have := h.lt; omega) (by simp))⟩, h.last, h.len, h.deep, h.low, h.signs.keep hg.size fun p => World.cell?_of_block (hg.block _ h.signs.1 (by simp))⟩
theorem went_none {R : Nat} {w w' : World} (hg : w.grownBy w' none) : Went R w w' := ⟨hg.os, hg.tape, hg.output, hg.size, fun k hk _ => hg.block k hk (by simp)⟩

/-- The reader's block, opened. -/
theorem Reads.open {R g : Nat} {s : St} {w : World} (h : Reads R g s w) : ∃ o n cap t r, s.left = t :: r ∧ n = r.length + 1 ∧ n ≤ cap ∧ n ≤ 65537 ∧ w.heap[R]? = some (.cells (cellsR g o n cap s) 58 (0, 0)) ∧
    w.cell? ⟨R, 0, none⟩ = some (.slice (some ⟨g, o, none⟩) n cap) ∧ w.cell? ⟨R, 1, none⟩ = some (.int .i64 s.deep) ∧ w.cell? ⟨R, 2, none⟩ = some (.int .i64 s.err) ∧ w.cell? ⟨R, 3, none⟩ = some (.int .i64 s.line) ∧ w.cell? ⟨R, 4, none⟩ = some (.int .i64 s.col) ∧
    w.cell? ⟨g, o, none⟩ = some (.int .i64 t.kind) ∧ w.cell? ⟨g, o + 1, none⟩ = some (.string ⟨t.text.toArray⟩) ∧ w.cell? ⟨g, o + 2, none⟩ = some (.int .i64 t.num) ∧ w.cell? ⟨g, o + 3, none⟩ = some (.int .i64 t.line) ∧ w.cell? ⟨g, o + 4, none⟩ = some (.int .i64 t.col) ∧ TokRow w g o s.left := by
  obtain ⟨o, cap, h1, h2, h3⟩ := h.row
  have hl := h.len
  obtain ⟨t, r, e⟩ := List.exists_cons_of_ne_nil h.last.ne
  have hn : s.left.length = r.length + 1 := by rw [e]; rfl
  obtain ⟨a0, a1, a2, a3, a4⟩ := h3 0 t (by rw [e]; rfl)
  rw [Nat.mul_zero, Nat.add_zero] at a0 a1 a2 a3 a4
  refine ⟨o, _, cap, t, r, e, rfl, by omega, by omega, by rw [← hn]; exact h1, ?_, ?_, ?_, ?_, ?_, a0, a1, a2, a3, a4, h3⟩
  all_goals (rw [Lib.cell_of_heap h1]; first | rfl | (rw [hn]; rfl) | (simp [cellsR, hn]))

def tokAgg (t : Tok) : Value := .agg #[.int .i64 t.kind, .string ⟨t.text.toArray⟩, .int .i64 t.num, .int .i64 t.line, .int .i64 t.col]
theorem field_at (a b c d e : Value) (w : World) : (Instr.field 68 (.agg #[a, b, c, d, e]) 3).run Tryd.prog w = .ok (.agg #[d, e]) w := by simp [Instr.field, go_sem, asAgg]
theorem field_text (a b c d e : Value) (w : World) : (Instr.field 68 (.agg #[a, b, c, d, e]) 1).run Tryd.prog w = .ok b w := by simp [Instr.field, go_sem, asAgg]
theorem field_kind (a b c d e : Value) (w : World) : (Instr.field 68 (.agg #[a, b, c, d, e]) 0).run Tryd.prog w = .ok a w := by simp [Instr.field, go_sem, asAgg]
/-- It answers v, and the reader is then so. -/
def Post (R g : Nat) (s' : St) (v : Value) (w : World) (e : Ending) (w' : World) : Prop := e = .returned v ∧ Went R w w' ∧ Reads R g s' w'

set_option maxHeartbeats 1000000 in
set_option maxRecDepth 100000 in
theorem now_any (R g : Nat) (s : St) (w : World) (h : Reads R g s w) : Calls Tryd.prog 18 #[.pointer (some ⟨R, 0, none⟩)] w fun e w' => e = .returned (tokAgg s.now) ∧ w.grownBy w' none := by
  obtain ⟨o, n, cap, t, r, hl, hn, hcap, hmax, hR, c0, c1, c2, c3, c4, a0, a1, a2, a3, a4, hrow⟩ := h.open
  have hnow : s.now = t := by unfold St.now; rw [hl]; rfl
  rw [hnow]
  have hn0 : 0 < n := by omega
  have hRs := h.size
  have hgs : g < w.heap.size := by have := h.lt; omega
  clear hl hn hR hrow hnow h
  go_enter Tryd.func18, Tryd.ntmps18
  go_wp2_with (fail)
  exact bodyPost_ret (v := tokAgg t) (by simp [results, Tryd.results18, go_sem, tokAgg]) rfl ⟨rfl, grown_alloc _ _⟩
end Go.Proofs.YtgnnendcgbijnaaDoor
