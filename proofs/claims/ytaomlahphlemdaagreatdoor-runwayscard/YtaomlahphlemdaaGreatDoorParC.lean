/-
  The parser's reader, as Go's memory holds it; what its small functions do.
  The parser's reader: take, fail, refuse, enter, leave, sees, skip, must, want.
  The parser's reader: sees, skip, must, want.
-/
import Derived.Test.YtaomlahphlemdaaGreatDoorAstF
import Derived.Test.YtaomlahphlemdaaGreatDoorLexG
import Derived.StillTailTactics
import Derived.IntWalk
import Derived.Deep.Cut
import Derived.Deep.CutRange
namespace Go.Proofs.YtaomlahphlemdaaGreatDoor
open Go.ChangeShapes Go.WideShapes Go.ChangeAt Go.RowKit
set_option linter.unusedVariables false

/-- What a reader holds: the tokens left, how deep it is, the fault. -/
structure St where
  left : List Tok
  deep : Int
  err : Int
  line : Int
  col : Int

def noTok : Tok := ⟨0, [], 0, 0, 0⟩
def St.now (s : St) : Tok := s.left.headD noTok
def St.next (s : St) : St := if s.now.kind = 0 then s else { s with left := s.left.drop 1 }
def St.sees (s : St) (xs : List (List UInt8)) : Bool := decide (s.now.text ∈ xs)
def St.fail (s : St) (e l c : Int) : St := if s.err = 0 then { left := s.left.drop (s.left.length - 1), deep := s.deep, err := e, line := l, col := c } else s
def St.refuse (s : St) : St := s.fail 12 s.now.line s.now.col
def St.must (s : St) (x : List UInt8) : St := if s.sees [x] then s.next else s.refuse
def St.enter (s : St) : St := let t := if 200 ≤ s.deep then s.fail 13 s.now.line s.now.col else s; { t with deep := t.deep + 1 }
def St.leave (s : St) : St := { s with deep := s.deep - 1 }

/-- What is of the end's kind has no text; numbers are of 64 bits. -/
def TokOk (t : Tok) : Prop := (t.kind = 0 → t.text = []) ∧ InI64 t.num
/-- The last token is the end; all are as they should be. -/
def LastEnd (l : List Tok) : Prop := (∃ a e, l = a ++ [e] ∧ e.kind = 0) ∧ ∀ t ∈ l, TokOk t
theorem LastEnd.ne {l : List Tok} (h : LastEnd l) : l ≠ [] := by obtain ⟨⟨a, e, rfl, _⟩, _⟩ := h; simp
theorem LastEnd.drop {l : List Tok} (h : LastEnd l) (k : Nat) (hk : k < l.length) : LastEnd (l.drop k) := by
  obtain ⟨⟨a, e, rfl, he⟩, ht⟩ := h
  refine ⟨⟨a.drop k, e, ?_, he⟩, fun t hm => ht t (List.mem_of_mem_drop hm)⟩
  rw [List.drop_append_of_le_length (by simp at hk; omega)]
theorem LastEnd.two {t : Tok} {r : List Tok} (h : LastEnd (t :: r)) (hk : t.kind ≠ 0) : r ≠ [] := by
  rintro rfl
  obtain ⟨⟨a, e, h, he⟩, _⟩ := h
  cases a with
  | nil => simp at h; rw [h] at hk; exact hk he
  | cons x y => simp at h

def TokRow (w : World) (g o : Nat) (l : List Tok) : Prop := ∀ (i : Nat) (t : Tok), l[i]? = some t → w.cell? ⟨g, o + 5 * i, none⟩ = some (.int .i64 t.kind) ∧ w.cell? ⟨g, o + 5 * i + 1, none⟩ = some (.string ⟨t.text.toArray⟩) ∧ w.cell? ⟨g, o + 5 * i + 2, none⟩ = some (.int .i64 t.num) ∧
  w.cell? ⟨g, o + 5 * i + 3, none⟩ = some (.int .i64 t.line) ∧ w.cell? ⟨g, o + 5 * i + 4, none⟩ = some (.int .i64 t.col)
theorem TokRow.drop {w : World} {g o : Nat} {l : List Tok} (h : TokRow w g o l) (k : Nat) : TokRow w g (o + 5 * k) (l.drop k) := by
  intro i t ht
  rw [List.getElem?_drop] at ht
  have e : o + 5 * k + 5 * i = o + 5 * (k + i) := by omega
  rw [e]; exact h _ t ht
theorem TokRow.keep {w w' : World} {g o : Nat} {l : List Tok} (h : TokRow w g o l) (hc : ∀ p, w'.cell? ⟨g, p, none⟩ = w.cell? ⟨g, p, none⟩) : TokRow w' g o l := fun i t ht => by simp only [hc]; exact h i t ht

def cellsR (g o n cap : Nat) (s : St) : Array Value := #[.slice (some ⟨g, o, none⟩) n cap, .int .i64 s.deep, .int .i64 s.err, .int .i64 s.line, .int .i64 s.col]
/-- The reader in block R, its tokens in block g. -/
structure Reads (R g : Nat) (s : St) (w : World) : Prop where
  lt : g < R
  row : ∃ o cap, w.heap[R]? = some (.cells (cellsR g o s.left.length cap s) 102 (0, 0)) ∧ s.left.length ≤ cap ∧ TokRow w g o s.left
  last : LastEnd s.left
  len : s.left.length ≤ 65537
  deep : 0 ≤ s.deep ∧ s.deep ≤ 400000
  low : 1 < R
  signs : Signs w

theorem Signs.keep {w w' : World} (h : Signs w) (hs : w.heap.size ≤ w'.heap.size) (hc : ∀ p, w'.cell? ⟨1, p, none⟩ = w.cell? ⟨1, p, none⟩) : Signs w' :=
  ⟨Nat.lt_of_lt_of_le h.1 hs, fun j x hj => (hc j).trans (h.2 j x hj)⟩
theorem Reads.size {R g : Nat} {s : St} {w : World} (h : Reads R g s w) : R < w.heap.size := by
  obtain ⟨o, cap, h1, _⟩ := h.row
  exact (Array.getElem?_eq_some_iff.1 h1).1
/-- Nothing but the reader's own block has turned. -/
abbrev Went (R : Nat) (w w' : World) : Prop := w.grownBy w' (some R)
theorem Went.trans {R : Nat} {a b c : World} (h : Went R a b) (k : Went R b c) : Went R a c :=
  ⟨k.os.trans h.os, k.tape.trans h.tape, k.output.trans h.output, Nat.le_trans h.size k.size, fun j hj hne => (k.block j (Nat.lt_of_lt_of_le hj h.size) hne).trans (h.block j hj hne)⟩
theorem Reads.more {R g : Nat} {s : St} {w w' : World} (h : Reads R g s w) (hg : w.grownBy w' none) : Reads R g s w' := by
  have hR := h.size
  obtain ⟨o, cap, h1, h2, h3⟩ := h.row
  exact ⟨h.lt, ⟨o, cap, (hg.block R hR (by simp)).trans h1, h2, h3.keep fun p => World.cell?_of_block (hg.block g (by have := h.lt; omega) (by simp))⟩, h.last, h.len, h.deep, h.low, h.signs.keep hg.size fun p => World.cell?_of_block (hg.block _ h.signs.1 (by simp))⟩
theorem went_none {R : Nat} {w w' : World} (hg : w.grownBy w' none) : Went R w w' := ⟨hg.os, hg.tape, hg.output, hg.size, fun k hk _ => hg.block k hk (by simp)⟩

/-- The reader's block, opened. -/
theorem Reads.open {R g : Nat} {s : St} {w : World} (h : Reads R g s w) : ∃ o n cap t r, s.left = t :: r ∧ n = r.length + 1 ∧ n ≤ cap ∧ n ≤ 65537 ∧ w.heap[R]? = some (.cells (cellsR g o n cap s) 102 (0, 0)) ∧
    w.cell? ⟨R, 0, none⟩ = some (.slice (some ⟨g, o, none⟩) n cap) ∧ w.cell? ⟨R, 1, none⟩ = some (.int .i64 s.deep) ∧ w.cell? ⟨R, 2, none⟩ = some (.int .i64 s.err) ∧ w.cell? ⟨R, 3, none⟩ = some (.int .i64 s.line) ∧ w.cell? ⟨R, 4, none⟩ = some (.int .i64 s.col) ∧
    w.cell? ⟨g, o, none⟩ = some (.int .i64 t.kind) ∧ w.cell? ⟨g, o + 1, none⟩ = some (.string ⟨t.text.toArray⟩) ∧ w.cell? ⟨g, o + 2, none⟩ = some (.int .i64 t.num) ∧ w.cell? ⟨g, o + 3, none⟩ = some (.int .i64 t.line) ∧ w.cell? ⟨g, o + 4, none⟩ = some (.int .i64 t.col) ∧ TokRow w g o s.left := by
  obtain ⟨o, cap, h1, h2, h3⟩ := h.row
  have hl := h.len
  obtain ⟨t, r, e⟩ := List.exists_cons_of_ne_nil h.last.ne
  have hn : s.left.length = r.length + 1 := by rw [e]; rfl
  obtain ⟨a0, a1, a2, a3, a4⟩ := h3 0 t (by rw [e]; rfl)
  rw [Nat.mul_zero, Nat.add_zero] at a0 a1 a2 a3 a4
  refine ⟨o, _, cap, t, r, e, rfl, by omega, by omega, by rw [← hn]; exact h1, ?_, ?_, ?_, ?_, ?_, a0, a1, a2, a3, a4, h3⟩
  all_goals (rw [Lib.cell_of_heap h1]; first | rfl | (rw [hn]; rfl) | (simp [cellsR, hn]))

def tokAgg (t : Tok) : Value := .agg #[.int .i64 t.kind, .string ⟨t.text.toArray⟩, .int .i64 t.num, .int .i64 t.line, .int .i64 t.col]
theorem field_at (a b c d e : Value) (w : World) : (Instr.field 132 (.agg #[a, b, c, d, e]) 3).run Tryz.prog w = .ok (.agg #[d, e]) w := by simp [Instr.field, go_sem, asAgg]
theorem field_text (a b c d e : Value) (w : World) : (Instr.field 132 (.agg #[a, b, c, d, e]) 1).run Tryz.prog w = .ok b w := by simp [Instr.field, go_sem, asAgg]
theorem field_kind (a b c d e : Value) (w : World) : (Instr.field 132 (.agg #[a, b, c, d, e]) 0).run Tryz.prog w = .ok a w := by simp [Instr.field, go_sem, asAgg]
/-- It answers v, and the reader is then so. -/
def Post (R g : Nat) (s' : St) (v : Value) (w : World) (e : Ending) (w' : World) : Prop := e = .returned v ∧ Went R w w' ∧ Reads R g s' w'

set_option maxHeartbeats 1000000 in
set_option maxRecDepth 100000 in
theorem now_any (R g : Nat) (s : St) (w : World) (h : Reads R g s w) : Calls Tryz.prog 59 #[.pointer (some ⟨R, 0, none⟩)] w fun e w' => e = .returned (tokAgg s.now) ∧ w.grownBy w' none := by
  obtain ⟨o, n, cap, t, r, hl, hn, hcap, hmax, hR, c0, c1, c2, c3, c4, a0, a1, a2, a3, a4, hrow⟩ := h.open
  have hnow : s.now = t := by unfold St.now; rw [hl]; rfl
  rw [hnow]
  have hn0 : 0 < n := by omega
  have hRs := h.size
  have hgs : g < w.heap.size := by have := h.lt; omega
  clear hl hn hR hrow hnow h
  go_enter Tryz.func59, Tryz.ntmps59
  go_wp2_with (fail)
  exact bodyPost_ret (v := tokAgg t) (by simp [results, Tryz.results59, go_sem, tokAgg]) rfl ⟨rfl, grown_alloc _ _⟩
end Go.Proofs.YtaomlahphlemdaaGreatDoor

namespace Go.Proofs.YtaomlahphlemdaaGreatDoor
open Go.ChangeShapes Go.WideShapes Go.ChangeAt Go.RowKit
set_option linter.unusedVariables false

theorem set_block (w : World) (R j : Nat) (cs : Array Value) (v : Value) (t : TypeId) (h : w.heap[R]? = some (.cells cs t (0, 0))) : (w.setCell ⟨R, j, none⟩ v).heap[R]? = some (.cells (cs.setIfInBounds j v) t (0, 0)) := by
  simp [World.setCell, Array.getElem?_modify, h]
theorem went_set (R j : Nat) (w : World) (v : Value) : Went R w (w.setCell ⟨R, j, none⟩ v) :=
  ⟨rfl, rfl, rfl, by simp, fun k hk hne => Below.heap_setCell _ _ _ _ (fun e => hne (by rw [e]))⟩
theorem went_alloc {R : Nat} {w w' : World} (h : Went R w w') (o : Obj) : Went R w (w'.alloc o) := h.trans (went_none (grown_alloc _ _))
theorem went_setR {R : Nat} {w w' : World} (h : Went R w w') (j : Nat) (v : Value) : Went R w (w'.setCell ⟨R, j, none⟩ v) := h.trans (went_set R j _ v)
theorem went_new {R b : Nat} {w w' : World} (h : Went R w w') (j : Nat) (v : Value) (hb : w.heap.size ≤ b) : Went R w (w'.setCell ⟨b, j, none⟩ v) :=
  ⟨h.os, h.tape, h.output, by have := h.size; simpa using this, fun k hk hne => (Below.heap_setCell _ _ _ _ (by show k ≠ b; omega)).trans (h.block k hk hne)⟩
theorem Reads.alloc {R g : Nat} {s : St} {w : World} (h : Reads R g s w) (o : Obj) : Reads R g s (w.alloc o) := h.more (grown_alloc _ _)
theorem Reads.set {R g b : Nat} {s : St} {w : World} (h : Reads R g s w) (j : Nat) (v : Value) (h1 : R < b) : Reads R g s (w.setCell ⟨b, j, none⟩ v) := by
  obtain ⟨o, cap, h2, h3, h4⟩ := h.row
  have hl := h.lt
  exact ⟨h.lt, ⟨o, cap, (Below.heap_setCell _ _ _ _ (by show R ≠ b; omega)).trans h2, h3, h4.keep fun p => World.cell?_of_block (Below.heap_setCell _ _ _ _ (by show g ≠ b; omega))⟩, h.last, h.len, h.deep, h.low, h.signs.keep (by simp) fun p => World.cell?_of_block (Below.heap_setCell _ _ _ _ (by have := h.low; show 1 ≠ b; omega))⟩
theorem Reads.put0 {R g o n cap : Nat} {s : St} {w : World} (h : Reads R g s w) (hR : w.heap[R]? = some (.cells (cellsR g o n cap s) 102 (0, 0))) (hrow : TokRow w g o s.left) (m n' cap' : Nat) (hm : m < s.left.length) (hn : n' = s.left.length - m) (hc : n' ≤ cap') :
    Reads R g { s with left := s.left.drop m } (w.setCell ⟨R, 0, none⟩ (.slice (some ⟨g, o + 5 * m, none⟩) n' cap')) := by
  have hl : (s.left.drop m).length = n' := by rw [List.length_drop, hn]
  have hlt := h.lt
  refine ⟨h.lt, ⟨o + 5 * m, cap', ?_, by rw [hl]; exact hc, ?_⟩, h.last.drop m hm, by have := h.len; rw [hl]; omega, h.deep, h.low, h.signs.keep (by simp) fun p => World.cell?_of_block (Below.heap_setCell _ _ _ _ (by have := h.low; show 1 ≠ R; omega))⟩
  · rw [hl]; exact set_block w R 0 _ _ _ hR
  · exact (hrow.drop m).keep fun p => World.cell?_of_block (Below.heap_setCell _ _ _ _ (by show g ≠ R; omega))
theorem Reads.put1 {R g : Nat} {s : St} {w : World} (h : Reads R g s w) (d : Int) (hd : 0 ≤ d ∧ d ≤ 400000) : Reads R g { s with deep := d } (w.setCell ⟨R, 1, none⟩ (.int .i64 d)) := by
  obtain ⟨o, cap, h2, h3, h4⟩ := h.row
  have hlt := h.lt
  exact ⟨h.lt, ⟨o, cap, set_block w R 1 _ _ _ h2, h3, h4.keep fun p => World.cell?_of_block (Below.heap_setCell _ _ _ _ (by show g ≠ R; omega))⟩, h.last, h.len, hd, h.low, h.signs.keep (by simp) fun p => World.cell?_of_block (Below.heap_setCell _ _ _ _ (by have := h.low; show 1 ≠ R; omega))⟩
theorem Reads.putF {R g : Nat} {s : St} {w : World} (h : Reads R g s w) (e l c : Int) : Reads R g { s with err := e, line := l, col := c } (((w.setCell ⟨R, 2, none⟩ (.int .i64 e)).setCell ⟨R, 3, none⟩ (.int .i64 l)).setCell ⟨R, 4, none⟩ (.int .i64 c)) := by
  obtain ⟨o, cap, h2, h3, h4⟩ := h.row
  have hlt := h.lt
  refine ⟨h.lt, ⟨o, cap, set_block _ R 4 _ _ _ (set_block _ R 3 _ _ _ (set_block w R 2 _ _ _ h2)), h3, h4.keep fun p => ?_⟩, h.last, h.len, h.deep, h.low, h.signs.keep (by simp) fun p => ?_⟩
  · rw [World.cell?_of_block (Below.heap_setCell _ _ _ _ (by show g ≠ R; omega)), World.cell?_of_block (Below.heap_setCell _ _ _ _ (by show g ≠ R; omega)), World.cell?_of_block (Below.heap_setCell _ _ _ _ (by show g ≠ R; omega))]
  · have hlow := h.low
    rw [World.cell?_of_block (Below.heap_setCell _ _ _ _ (by show 1 ≠ R; omega)), World.cell?_of_block (Below.heap_setCell _ _ _ _ (by show 1 ≠ R; omega)), World.cell?_of_block (Below.heap_setCell _ _ _ _ (by show 1 ≠ R; omega))]
theorem frozenR {w : World} {R j : Nat} {cs : Array Value} {t : TypeId} (h : w.heap[R]? = some (.cells cs t (0, 0))) : w.frozen? ⟨R, j, none⟩ = false := Lib.frozen_of_heap h j

set_option maxHeartbeats 1000000 in
set_option maxRecDepth 100000 in
theorem take_any (R g : Nat) (s : St) (w : World) (h : Reads R g s w) : Calls Tryz.prog 86 #[.pointer (some ⟨R, 0, none⟩)] w (Post R g s.next (tokAgg s.now) w) := by
  have HR := Lib.hid h
  have hRs := h.size
  have hgR := h.lt
  clear h
  go_enter Tryz.func86, Tryz.ntmps86
  go_wp2_with (fail)
  refine (now_any R g s _ (HR.out.more (grown_alloc _ _))).mono ?_
  rintro e w1 ⟨rfl, hg1⟩
  have hgr : w.grownBy w1 none := ⟨hg1.os, hg1.tape, hg1.output, by have := hg1.size; simp at this; omega, fun k hk _ => (hg1.block k (by simp; omega) (by simp)).trans (Below.heap_alloc _ _ _ hk)⟩
  have hsz := hg1.size
  simp at hsz
  have hsz' : w.heap.size < w1.heap.size := hsz
  clear hsz
  have HG := Lib.hid hgr
  have hk0 := hg1.block w.heap.size (by simp) (by simp)
  rw [heap_alloc_new] at hk0
  have z0 : w1.cell? ⟨w.heap.size, 0, none⟩ = some (.int .i64 0) := by rw [Lib.cell_of_heap hk0]; rfl
  have z1 : w1.cell? ⟨w.heap.size, 1, none⟩ = some (.string ⟨#[]⟩) := by rw [Lib.cell_of_heap hk0]; rfl
  have z2 : w1.cell? ⟨w.heap.size, 2, none⟩ = some (.int .i64 0) := by rw [Lib.cell_of_heap hk0]; rfl
  have z3 : w1.cell? ⟨w.heap.size, 3, none⟩ = some (.int .i64 0) := by rw [Lib.cell_of_heap hk0]; rfl
  have z4 : w1.cell? ⟨w.heap.size, 4, none⟩ = some (.int .i64 0) := by rw [Lib.cell_of_heap hk0]; rfl
  clear hgr hg1
  obtain ⟨o, n, cap, t, r, hl, hn, hcap, hmax, hR, c0, c1, c2, c3, c4, a0, a1, a2, a3, a4, hrow⟩ := (HR.out.more HG.out).open
  have hnow : s.now = t := by unfold St.now; rw [hl]; rfl
  rw [hnow]
  unfold tokAgg
  have HL := Lib.hid hl; have HN := Lib.hid hn; have HROW := Lib.hid hrow; have HRB := Lib.hid hR; have HNOW := Lib.hid hnow
  have fR := frozenR (j := 0) hR
  have hn0 : 0 < n := by omega
  have f0 : w1.frozen? ⟨w.heap.size, 0, none⟩ = false := Lib.frozen_of_heap hk0 0
  have f1 : w1.frozen? ⟨w.heap.size, 1, none⟩ = false := Lib.frozen_of_heap hk0 1
  have f2 : w1.frozen? ⟨w.heap.size, 2, none⟩ = false := Lib.frozen_of_heap hk0 2
  have f3 : w1.frozen? ⟨w.heap.size, 3, none⟩ = false := Lib.frozen_of_heap hk0 3
  have f4 : w1.frozen? ⟨w.heap.size, 4, none⟩ = false := Lib.frozen_of_heap hk0 4
  have hgs : g < w1.heap.size := by omega
  have hR1 : R < w1.heap.size := by omega
  clear hl hn hrow hR hnow hk0
  by_cases hk : t.kind = 0
  · have b0 : (t.kind != 0) = false := by simpa using hk
    have HK := Lib.hid hk
    clear hk
    go_wp2_with (fail)
    refine bodyPost_ret (v := tokAgg t) (by simp [results, Tryz.results86, go_sem, tokAgg, z0, z1, z2, z3, z4, hsz']) rfl ⟨by rw [HNOW.out], ?_, ?_⟩
    · repeat (first | with_reducible (refine went_alloc ?_ _) | with_reducible (refine went_new ?_ _ _ (Nat.le_refl _)) | with_reducible (exact went_none HG.out))
    · have : s.next = s := by unfold St.next; rw [HNOW.out, if_pos HK.out]
      rw [this]
      repeat (first | with_reducible (refine Reads.alloc ?_ _) | with_reducible (refine Reads.set ?_ _ _ hRs) | with_reducible (exact HR.out.more HG.out))
  · have b0 : (t.kind != 0) = true := by simpa using hk
    have HK := Lib.hid hk
    clear hk
    obtain ⟨t2, r2, hr2⟩ := List.exists_cons_of_ne_nil (LastEnd.two (t := t) (r := r) (by rw [← HL.out]; exact HR.out.last) HK.out)
    have hn2 : 1 < n := by rw [HN.out, hr2]; simp
    have hc2 : 1 < cap := by omega
    have hc3 : (cap == 1) = false := beq_eq_false_iff_ne.mpr (by omega)
    have HR2 := Lib.hid hr2
    clear hr2
    go_wp2_with (fail)
    refine bodyPost_ret (v := tokAgg t) (by simp [results, Tryz.results86, go_sem, tokAgg, z0, z1, z2, z3, z4, hsz']) rfl ⟨by rw [HNOW.out], ?_, ?_⟩
    · repeat (first | with_reducible (refine went_alloc ?_ _) | with_reducible (refine went_new ?_ _ _ (Nat.le_refl _)) | with_reducible (refine went_setR ?_ _ _) | with_reducible (exact went_none HG.out))
    · have : s.next = { s with left := s.left.drop 1 } := by unfold St.next; rw [HNOW.out, if_neg HK.out]
      rw [this]
      repeat (first | with_reducible (refine Reads.alloc ?_ _) | with_reducible (refine Reads.set ?_ _ _ hRs))
      exact (HR.out.more HG.out).put0 HRB.out HROW.out 1 (n - 1) (cap - 1) (by rw [HL.out]; simp; have := HN.out; omega) (by rw [HL.out, HN.out]; rfl) (by omega)

set_option maxHeartbeats 1000000 in
set_option maxRecDepth 100000 in
theorem fail_any (R g : Nat) (s : St) (er l c : Int) (w : World) (h : Reads R g s w) : Calls Tryz.prog 94 #[.pointer (some ⟨R, 0, none⟩), .int .i64 er, .agg #[.int .i64 l, .int .i64 c]] w (Post R g (s.fail er l c) (.tuple #[]) w) := by
  have HR := Lib.hid h
  have hRs := h.size
  have hgR := h.lt
  have hgs : g < w.heap.size := by omega
  obtain ⟨o, n, cap, t, r, hl, hn, hcap, hmax, hR, c0, c1, c2, c3, c4, a0, a1, a2, a3, a4, hrow⟩ := h.open
  have HL := Lib.hid hl; have HN := Lib.hid hn; have HROW := Lib.hid hrow; have HRB := Lib.hid hR
  have g0 := frozenR (j := 0) hR; have g2 := frozenR (j := 2) hR; have g3 := frozenR (j := 3) hR; have g4 := frozenR (j := 4) hR
  have hn0 : 0 < n := by omega
  clear hl hn hrow hR h a0 a1 a2 a3 a4
  by_cases he : s.err = 0
  · have b0 : (s.err == 0) = true := by simpa using he
    have HE := Lib.hid he
    clear he
    go_enter Tryz.func94, Tryz.ntmps94
    go_upto_region 2 with (fail)
    go_cut [] from 12 to 17 (fun wx => Went R w wx ∧ Reads R g { s with err := er, line := l, col := c } wx)
    case first =>
      go_wp2_with (fail)
      go_meet
      case rel =>
        refine ⟨?_, ?_⟩
        · repeat (first | with_reducible (refine went_alloc ?_ _) | with_reducible (refine went_setR ?_ _ _) | with_reducible (exact went_none ⟨rfl, rfl, rfl, Nat.le_refl _, fun _ _ _ => rfl⟩))
        · repeat (first | with_reducible (refine Reads.alloc ?_ _) | with_reducible (exact HR.out.putF er l c))
    case rest =>
      obtain ⟨hw, hr⟩ := hcut
      have HW := Lib.hid hw; have HRC := Lib.hid hr
      have hRs' := hr.size
      clear c0 c1 c2 c3 c4 g0 g2 g3 g4 hw hcap hmax hn0
      obtain ⟨o, n, cap, t, r, hl, hn, hcap, hmax, hR, c0, c1, c2, c3, c4, a0, a1, a2, a3, a4, hrow⟩ := hr.open
      clear c1 c2 c3 c4 a0 a1 a2 a3 a4 hr
      have HL' := Lib.hid hl; have HN' := Lib.hid hn; have HROW' := Lib.hid hrow; have HRB' := Lib.hid hR
      have g0 := frozenR (j := 0) hR
      have hn0 : 0 < n := by omega
      clear hl hn hrow hR
      obtain ⟨m, rfl⟩ : ∃ m, n = m + 1 := ⟨n - 1, by omega⟩
      have b3 : IntKind.i64.wrap (m : Int) = m := IntWalk.i64_in _ (by omega)
      have b6 : (0 : Int) ≤ (m : Int) := by omega
      have b8 : m ≤ m + 1 := by omega
      have b9 : (m : Int) ≤ (m : Int) + 1 := by omega
      have b10 : (cap == m) = false := beq_eq_false_iff_ne.mpr (by omega)
      have b11 : ¬ cap = m := by omega
      have b12 : m ≤ cap := by omega
      go_wp2_with (fail)
      go_still_tail 14, (by kernel_rfl)
      change wpList _ _ _ _ _ wc.drew
      go_wp2_with (fail)
      go_end0
      have hd : wc.grownBy wc.drew none := ⟨rfl, rfl, rfl, Nat.le_refl _, fun _ _ _ => rfl⟩
      refine ⟨rfl, went_setR (HW.out.trans (went_none hd)) _ _, ?_⟩
      have hlen : s.left.length = m + 1 := by have h1 := congrArg List.length HL'.out; have h2 := HN'.out; simp at h1; omega
      have hf : s.fail er l c = { ({ s with err := er, line := l, col := c } : St) with left := s.left.drop m } := by
        unfold St.fail; rw [if_pos HE.out, hlen, Nat.add_sub_cancel]
      rw [hf]
      have e5 : o + m * 5 = o + 5 * m := by omega
      rw [e5]
      exact (HRC.out.more hd).put0 HRB'.out HROW'.out m 1 (cap - m) (by show m < s.left.length; omega) (by show 1 = s.left.length - m; omega) (by omega)
  · have b0 : (s.err == 0) = false := by simpa using he
    have HE := Lib.hid he
    clear he
    go_enter Tryz.func94, Tryz.ntmps94
    go_wp2_with (fail)
    go_end0
    refine ⟨rfl, went_none (grown_alloc _ _), ?_⟩
    have : s.fail er l c = s := by unfold St.fail; rw [if_neg HE.out]
    rw [this]
    exact HR.out.alloc _

set_option maxHeartbeats 1000000 in
set_option maxRecDepth 100000 in
theorem refuse_any (R g : Nat) (s : St) (w : World) (h : Reads R g s w) : Calls Tryz.prog 62 #[.pointer (some ⟨R, 0, none⟩)] w (Post R g s.refuse (.tuple #[]) w) := by
  have HR := Lib.hid h
  clear h
  go_enter Tryz.func62, Tryz.ntmps62
  go_wp2_with (fail)
  refine (now_any R g s _ HR.out).mono ?_
  rintro e w1 ⟨rfl, hg1⟩
  have HG := Lib.hid hg1
  clear hg1
  unfold tokAgg
  go_wp2_with (fail)
  rw [field_at]
  simp only [Result.andThen]
  rw [Oper.upon_value]
  go_wp2_with (fail)
  refine (fail_any R g s 12 s.now.line s.now.col _ (HR.out.more HG.out)).mono ?_
  rintro e w2 ⟨rfl, hw2, hr2⟩
  have HW := Lib.hid hw2; have HR2 := Lib.hid hr2
  clear hw2 hr2
  go_wp2_with (fail)
  go_end0
  exact ⟨rfl, (went_none HG.out).trans HW.out, HR2.out⟩

set_option maxHeartbeats 1000000 in
set_option maxRecDepth 100000 in
theorem leave_any (R g : Nat) (s : St) (w : World) (h : Reads R g s w) (hd : 1 ≤ s.deep) : Calls Tryz.prog 103 #[.pointer (some ⟨R, 0, none⟩)] w (Post R g s.leave (.tuple #[]) w) := by
  have HR := Lib.hid h
  obtain ⟨d1, d2⟩ := h.deep
  obtain ⟨o, n, cap, t, r, hl, hn, hcap, hmax, hR, c0, c1, c2, c3, c4, a0, a1, a2, a3, a4, hrow⟩ := h.open
  have g1 := frozenR (j := 1) hR
  clear hl hn hrow hR h a0 a1 a2 a3 a4 c0 c2 c3 c4
  go_enter Tryz.func103, Tryz.ntmps103
  go_wp2_with (fail)
  go_end0
  exact ⟨rfl, went_set _ _ _ _, HR.out.put1 (s.deep - 1) (by omega)⟩

theorem St.fail_deep (s : St) (e l c : Int) : (s.fail e l c).deep = s.deep := by unfold St.fail; split <;> rfl
set_option maxHeartbeats 1000000 in
set_option maxRecDepth 100000 in
theorem enter_any (R g : Nat) (s : St) (w : World) (h : Reads R g s w) (hd : s.deep ≤ 399999) : Calls Tryz.prog 102 #[.pointer (some ⟨R, 0, none⟩)] w (Post R g s.enter (.tuple #[]) w) := by
  have HR := Lib.hid h
  obtain ⟨d1, d2⟩ := h.deep
  obtain ⟨o, n, cap, t, r, hl, hn, hcap, hmax, hR, c0, c1, c2, c3, c4, a0, a1, a2, a3, a4, hrow⟩ := h.open
  have g1 := frozenR (j := 1) hR
  clear hl hn hrow hR h a0 a1 a2 a3 a4 c0 c2 c3 c4
  by_cases hb : 200 ≤ s.deep
  · have HB := Lib.hid hb
    go_enter Tryz.func102, Tryz.ntmps102
    go_wp2_with (fail)
    refine (now_any R g s _ HR.out).mono ?_
    rintro e w1 ⟨rfl, hg1⟩
    have HG := Lib.hid hg1
    clear hg1
    unfold tokAgg
    go_wp2_with (fail)
    rw [field_at]
    simp only [Result.andThen]
    rw [Oper.upon_value]
    go_wp2_with (fail)
    refine (fail_any R g s 13 s.now.line s.now.col _ (HR.out.more HG.out)).mono ?_
    rintro e w2 ⟨rfl, hw2, hr2⟩
    have HW := Lib.hid hw2; have HR2 := Lib.hid hr2
    clear c1 g1
    obtain ⟨o, n, cap, t, r, hl, hn, hcap, hmax, hR, c0, c1, c2, c3, c4, a0, a1, a2, a3, a4, hrow⟩ := hr2.open
    have g1 := frozenR (j := 1) hR
    rw [St.fail_deep] at c1
    clear hw2 hr2 hl hn hrow hR a0 a1 a2 a3 a4 c0 c2 c3 c4
    go_wp2_with (fail)
    go_end0
    refine ⟨rfl, went_setR ((went_none HG.out).trans HW.out) _ _, ?_⟩
    have : s.enter = { s.fail 13 s.now.line s.now.col with deep := s.deep + 1 } := by unfold St.enter; simp only [if_pos (show 200 ≤ s.deep by have := HB.out; omega), St.fail_deep]
    rw [this]
    exact HR2.out.put1 (s.deep + 1) (by omega)
  · have HB := Lib.hid hb
    go_enter Tryz.func102, Tryz.ntmps102
    go_wp2_with (fail)
    go_end0
    refine ⟨rfl, went_set _ _ _ _, ?_⟩
    have : s.enter = { s with deep := s.deep + 1 } := by unfold St.enter; simp only [if_neg (show ¬ 200 ≤ s.deep by have := HB.out; omega)]
    rw [this]
    exact HR.out.put1 (s.deep + 1) (by omega)
end Go.Proofs.YtaomlahphlemdaaGreatDoor

namespace Go.Proofs.YtaomlahphlemdaaGreatDoor
open Go.ChangeShapes Go.WideShapes Go.ChangeAt Go.RowKit
set_option linter.unusedVariables false

/-- A list of texts in a block of its own. -/
def Marks (w : World) (m : Nat) (xs : List (List UInt8)) : Prop := ∀ (j : Nat) (x : List UInt8), xs[j]? = some x → w.cell? ⟨m, j, none⟩ = some (.string ⟨x.toArray⟩)
theorem Marks.keep {w w' : World} {m : Nat} {xs : List (List UInt8)} (h : Marks w m xs) (hc : ∀ p, w'.cell? ⟨m, p, none⟩ = w.cell? ⟨m, p, none⟩) : Marks w' m xs := fun j x hj => (hc j).trans (h j x hj)
theorem bytes_mem (t : List UInt8) (xs : List (List UInt8)) : ((⟨t.toArray⟩ : ByteArray) ∈ xs.map fun x => (⟨x.toArray⟩ : ByteArray)) ↔ t ∈ xs := by
  rw [List.mem_map]
  constructor
  · rintro ⟨x, hx, he⟩
    have : x.toArray = t.toArray := congrArg ByteArray.data he
    have : x = t := by simpa using this
    rw [← this]; exact hx
  · intro h; exact ⟨t, h, rfl⟩

set_option maxHeartbeats 1000000 in
set_option maxRecDepth 100000 in
theorem sees_any (R g : Nat) (s : St) (m cap : Nat) (xs : List (List UInt8)) (hx : xs.length ≤ 1000) (w : World) (h : Reads R g s w) (hm : Marks w m xs) (hmw : m < w.heap.size) :
    Calls Tryz.prog 91 #[.pointer (some ⟨R, 0, none⟩), .slice (some ⟨m, 0, none⟩) xs.length cap] w fun e w' => e = .returned (.bool (s.sees xs)) ∧ w.grownBy w' none := by
  have HR := Lib.hid h; have HM := Lib.hid hm
  clear h hm
  generalize hn : xs.length = n at hx
  have HN := Lib.hid hn
  clear hn
  go_enter Tryz.func91, Tryz.ntmps91
  go_wp2_with (fail)
  refine (now_any R g s _ HR.out).mono ?_
  rintro e w1 ⟨rfl, hg1⟩
  have HG := Lib.hid hg1
  clear hg1
  unfold tokAgg
  go_wp2_with (fail)
  rw [field_text]
  simp only [Result.andThen]
  rw [Oper.upon_value]
  go_wp2_with (fail)
  have hmk : Marks w1 m xs := HM.out.keep fun p => World.cell?_of_block (HG.out.block m hmw (by simp))
  refine (Tryz.slices_Contains_string m 0 n cap (xs.map fun x => (⟨x.toArray⟩ : ByteArray)) ⟨s.now.text.toArray⟩ _ (by rw [List.length_map, HN.out]; exact Nat.le_refl _) (by omega) (fun j hj => ?_)).mono ?_
  · rw [List.length_map] at hj
    rw [Nat.zero_add, hmk j _ (List.getElem?_eq_getElem hj)]
    simp [List.getD, hj]
  · rintro e w2 ⟨rfl, rfl⟩
    have hv : Lib.containsS ((xs.map fun x => (⟨x.toArray⟩ : ByteArray)).take n) ⟨s.now.text.toArray⟩ = s.sees xs := by
      rw [List.take_of_length_le (by rw [List.length_map, HN.out]; exact Nat.le_refl _), Bool.eq_iff_iff, Lib.containsS_iff]
      unfold St.sees
      rw [decide_eq_true_iff]
      exact bytes_mem _ _
    rw [hv]
    clear hv hmk
    go_wp2_with (fail)
    go_ret
    exact ⟨rfl, HG.out⟩

theorem grown_trans {a b c : World} (h : a.grownBy b none) (k : b.grownBy c none) : a.grownBy c none :=
  ⟨k.os.trans h.os, k.tape.trans h.tape, k.output.trans h.output, Nat.le_trans h.size k.size, fun j hj hne => (k.block j (Nat.lt_of_lt_of_le hj h.size) hne).trans (h.block j hj hne)⟩

def St.skip (s : St) (x : List UInt8) : St := if s.sees [x] then s.next else s
set_option maxHeartbeats 1000000 in
set_option maxRecDepth 100000 in
theorem skip_any (R g : Nat) (s : St) (x : List UInt8) (w : World) (h : Reads R g s w) :
    Calls Tryz.prog 88 #[.pointer (some ⟨R, 0, none⟩), .string ⟨x.toArray⟩] w (Post R g (s.skip x) (.bool (s.sees [x])) w) := by
  have HR := Lib.hid h
  have hRs := h.size
  clear h
  go_enter Tryz.func88, Tryz.ntmps88
  go_wp2_with (fail)
  have hmk : Marks (w.alloc (.cells #[.string ⟨x.toArray⟩] 9)) w.heap.size [x] := by
    intro j y hj
    rw [World.cell?_alloc_at _ _ _ _ rfl]
    cases j with
    | zero => simp at hj; subst hj; rfl
    | succ j => simp at hj
  have HM := Lib.hid hmk
  clear hmk
  refine (sees_any R g s w.heap.size 1 [x] (by simp) _ (HR.out.alloc _) HM.out (by simp)).mono ?_
  rintro e w1 ⟨rfl, hg1⟩
  have HG := Lib.hid (grown_trans (grown_alloc w _) hg1)
  clear hg1
  cases hb : s.sees [x]
  · have HB := Lib.hid (show s.skip x = s by unfold St.skip; rw [hb]; rfl)
    have HBB := Lib.hid hb
    clear hb
    go_wp2_with (fail)
    go_ret
    exact ⟨by rw [HBB.out]; rfl, went_none HG.out, by rw [HB.out]; exact HR.out.more HG.out⟩
  · have HB := Lib.hid (show s.skip x = s.next by unfold St.skip; rw [hb]; rfl)
    have HBB := Lib.hid hb
    clear hb
    go_wp2_with (fail)
    refine (take_any R g s _ (HR.out.more HG.out)).mono ?_
    rintro e w2 ⟨rfl, hw2, hr2⟩
    have HW := Lib.hid hw2; have HR2 := Lib.hid hr2
    clear hw2 hr2
    unfold tokAgg
    go_wp2_with (fail)
    go_ret
    exact ⟨by rw [HBB.out]; rfl, (went_none HG.out).trans HW.out, by rw [HB.out]; exact HR2.out⟩

set_option maxHeartbeats 1000000 in
set_option maxRecDepth 100000 in
theorem must_any (R g : Nat) (s : St) (x : List UInt8) (w : World) (h : Reads R g s w) :
    Calls Tryz.prog 90 #[.pointer (some ⟨R, 0, none⟩), .string ⟨x.toArray⟩] w (Post R g (s.must x) (.tuple #[]) w) := by
  have HR := Lib.hid h
  clear h
  go_enter Tryz.func90, Tryz.ntmps90
  go_wp2_with (fail)
  refine (skip_any R g s x _ HR.out).mono ?_
  rintro e w1 ⟨rfl, hw1, hr1⟩
  have HW := Lib.hid hw1; have HR1 := Lib.hid hr1
  clear hw1 hr1
  cases hb : s.sees [x]
  · have HB := Lib.hid hb
    have HS := Lib.hid (show s.must x = s.refuse by unfold St.must; rw [hb]; rfl)
    have HK := Lib.hid (show s.skip x = s by unfold St.skip; rw [hb]; rfl)
    clear hb
    go_wp2_with (fail)
    refine (refuse_any R g s _ (by rw [← HK.out]; exact HR1.out)).mono ?_
    rintro e w2 ⟨rfl, hw2, hr2⟩
    have HW2 := Lib.hid hw2; have HR2 := Lib.hid hr2
    clear hw2 hr2
    go_wp2_with (fail)
    go_end0
    exact ⟨rfl, HW.out.trans HW2.out, by rw [HS.out]; exact HR2.out⟩
  · have HS := Lib.hid (show s.must x = s.skip x by unfold St.must St.skip; rw [hb]; rfl)
    clear hb
    go_wp2_with (fail)
    go_end0
    exact ⟨rfl, HW.out, by rw [HS.out]; exact HR1.out⟩

def St.want (s : St) (k : Int) : Tok × St := if s.now.kind = k then (s.now, s.next) else (noTok, s.refuse)
set_option maxHeartbeats 1000000 in
set_option maxRecDepth 100000 in
theorem want_any (R g : Nat) (s : St) (k : Int) (w : World) (h : Reads R g s w) :
    Calls Tryz.prog 87 #[.pointer (some ⟨R, 0, none⟩), .int .i64 k] w (Post R g (s.want k).2 (tokAgg (s.want k).1) w) := by
  have HR := Lib.hid h
  have hRs := h.size
  clear h
  go_enter Tryz.func87, Tryz.ntmps87
  go_wp2_with (fail)
  refine (now_any R g s _ (HR.out.alloc _)).mono ?_
  rintro e w1 ⟨rfl, hg1⟩
  have hsz := hg1.size
  simp at hsz
  have hk0 := hg1.block w.heap.size (by simp) (by simp)
  rw [heap_alloc_new] at hk0
  have HG := Lib.hid (grown_trans (grown_alloc w _) hg1)
  have HK0 := Lib.hid hk0
  clear hg1 hk0
  unfold tokAgg
  go_wp2_with (fail)
  rw [field_kind]
  simp only [Result.andThen]
  rw [Oper.upon_value]
  by_cases hk : s.now.kind = k
  · have b0 : (s.now.kind != k) = false := by simpa using hk
    have HW := Lib.hid (show s.want k = (s.now, s.next) by unfold St.want; rw [if_pos hk])
    clear hk
    go_wp2_with (fail)
    refine (take_any R g s _ (HR.out.more HG.out)).mono ?_
    rintro e w2 ⟨rfl, hw2, hr2⟩
    have hsz2 := hw2.size
    have hk2 := (hw2.block w.heap.size (by omega) (by simp; omega)).trans HK0.out
    obtain ⟨z0, z1, z2, z3, z4⟩ : w2.cell? ⟨w.heap.size, 0, none⟩ = some (.int .i64 0) ∧ w2.cell? ⟨w.heap.size, 1, none⟩ = some (.string ⟨#[]⟩) ∧ w2.cell? ⟨w.heap.size, 2, none⟩ = some (.int .i64 0) ∧ w2.cell? ⟨w.heap.size, 3, none⟩ = some (.int .i64 0) ∧ w2.cell? ⟨w.heap.size, 4, none⟩ = some (.int .i64 0) := by
      refine ⟨?_, ?_, ?_, ?_, ?_⟩ <;> (rw [Lib.cell_of_heap hk2]; rfl)
    have f0 := Lib.frozen_of_heap hk2 0; have f1 := Lib.frozen_of_heap hk2 1; have f2 := Lib.frozen_of_heap hk2 2; have f3 := Lib.frozen_of_heap hk2 3; have f4 := Lib.frozen_of_heap hk2 4
    have HW2 := Lib.hid hw2; have HR2 := Lib.hid hr2
    clear hw2 hr2 hk2
    unfold tokAgg
    go_wp2_with (fail)
    refine bodyPost_ret (v := tokAgg s.now) (by simp [results, Tryz.results87, go_sem, tokAgg, z0, z1, z2, z3, z4]) rfl ⟨by rw [HW.out], ?_, ?_⟩
    · repeat (first | with_reducible (refine went_new ?_ _ _ (Nat.le_refl _)) | with_reducible (exact (went_none HG.out).trans HW2.out))
    · rw [HW.out]
      repeat (first | with_reducible (refine Reads.set ?_ _ _ hRs) | with_reducible (exact HR2.out))
  · have b0 : (s.now.kind != k) = true := by simpa using hk
    have HW := Lib.hid (show s.want k = (noTok, s.refuse) by unfold St.want; rw [if_neg hk])
    clear hk
    go_wp2_with (fail)
    refine (refuse_any R g s _ (HR.out.more HG.out)).mono ?_
    rintro e w2 ⟨rfl, hw2, hr2⟩
    have hsz2 := hw2.size
    have hk2 := (hw2.block w.heap.size (by omega) (by simp; omega)).trans HK0.out
    obtain ⟨z0, z1, z2, z3, z4⟩ : w2.cell? ⟨w.heap.size, 0, none⟩ = some (.int .i64 0) ∧ w2.cell? ⟨w.heap.size, 1, none⟩ = some (.string ⟨#[]⟩) ∧ w2.cell? ⟨w.heap.size, 2, none⟩ = some (.int .i64 0) ∧ w2.cell? ⟨w.heap.size, 3, none⟩ = some (.int .i64 0) ∧ w2.cell? ⟨w.heap.size, 4, none⟩ = some (.int .i64 0) := by
      refine ⟨?_, ?_, ?_, ?_, ?_⟩ <;> (rw [Lib.cell_of_heap hk2]; rfl)
    have f0 := Lib.frozen_of_heap hk2 0; have f1 := Lib.frozen_of_heap hk2 1; have f2 := Lib.frozen_of_heap hk2 2; have f3 := Lib.frozen_of_heap hk2 3; have f4 := Lib.frozen_of_heap hk2 4
    have HW2 := Lib.hid hw2; have HR2 := Lib.hid hr2
    clear hw2 hr2 hk2
    go_wp2_with (fail)
    refine bodyPost_ret (v := tokAgg noTok) (by simp [results, Tryz.results87, go_sem, tokAgg, noTok, z0, z1, z2, z3, z4]) rfl ⟨by rw [HW.out], ?_, ?_⟩
    · repeat (first | with_reducible (refine went_new ?_ _ _ (Nat.le_refl _)) | with_reducible (exact (went_none HG.out).trans HW2.out))
    · rw [HW.out]
      repeat (first | with_reducible (refine Reads.set ?_ _ _ hRs) | with_reducible (exact HR2.out))
end Go.Proofs.YtaomlahphlemdaaGreatDoor
