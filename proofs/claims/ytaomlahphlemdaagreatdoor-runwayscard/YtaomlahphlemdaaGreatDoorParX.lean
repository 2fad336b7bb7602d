/-
  Statements, as Go's memory holds them; the parser: return, let.
  The parser: behind a fault the end alone is left; a statement takes a token, or is a fault.
  The parser: let; loops, over what a block is.
  The parser: loops and choices, over what a block is, and what stands behind else.
  The parser: choices, over what a block is, and what stands behind else.
  The parser: what stands behind else, over what a block and a choice are.
  The parser: a statement, by its first token.
  The parser: statements as the model reads them; they keep how deep the reader is, and take a token.
-/
import Derived.Test.YtaomlahphlemdaaGreatDoorParP
namespace Go.Proofs.YtaomlahphlemdaaGreatDoor
open Go.ChangeShapes Go.WideShapes Go.ChangeAt Go.RowKit
set_option linter.unusedVariables false

/-- A statement. -/
inductive Sm where
  | mk (does line col : Int) (name : List UInt8) (es : List Ex) (thn els : List Sm)
def cellsS (does line col : Int) (name : List UInt8) (ev tv lv : Value) : Array Value := #[.int .i64 does, .int .i64 line, .int .i64 col, .string ⟨name.toArray⟩, ev, tv, lv]
mutual
/-- These seven cells are this statement, its parts in memory, in such blocks. -/
def Sm.At (w : World) (S : Nat → Prop) : Sm → Array Value → Prop
  | .mk does line col name es thn els, cs => ∃ ev tv lv, cs = cellsS does line col name ev tv lv ∧ KidsAt w S es ev ∧
      ((thn = [] ∧ ∃ a cap, tv = .slice a 0 cap) ∨ (thn ≠ [] ∧ ∃ g o cap, tv = .slice (some ⟨g, o, none⟩) thn.length cap ∧ S g ∧ thn.length ≤ cap ∧ thn.length ≤ 4611686018427387904 ∧ Sm.Row w S g o thn)) ∧
      ((els = [] ∧ ∃ a cap, lv = .slice a 0 cap) ∨ (els ≠ [] ∧ ∃ g o cap, lv = .slice (some ⟨g, o, none⟩) els.length cap ∧ S g ∧ els.length ≤ cap ∧ els.length ≤ 4611686018427387904 ∧ Sm.Row w S g o els))
def Sm.Row (w : World) (S : Nat → Prop) (g : Nat) : Nat → List Sm → Prop
  | _, [] => True
  | o, e :: r => (∃ cs, e.At w S cs ∧ ∀ j, j < 7 → w.cell? ⟨g, o + j, none⟩ = cs[j]?) ∧ Sm.Row w S g (o + 7) r
end
/-- A list of statements, as a slice. -/
def BodyAt (w : World) (S : Nat → Prop) (l : List Sm) (v : Value) : Prop :=
  (l = [] ∧ ∃ a cap, v = .slice a 0 cap) ∨ (l ≠ [] ∧ ∃ g o cap, v = .slice (some ⟨g, o, none⟩) l.length cap ∧ S g ∧ l.length ≤ cap ∧ l.length ≤ 4611686018427387904 ∧ Sm.Row w S g o l)
theorem BodyAt.slice {w : World} {S : Nat → Prop} {l : List Sm} {v : Value} (h : BodyAt w S l v) : ∃ a k c, v = .slice a k c := by
  rcases h with ⟨_, a, cap, rfl⟩ | ⟨_, g, o, cap, rfl, _⟩ <;> exact ⟨_, _, _, rfl⟩
theorem sm_at {w : World} {S : Nat → Prop} {does line col : Int} {name : List UInt8} {es : List Ex} {thn els : List Sm} {ev tv lv : Value} (h1 : KidsAt w S es ev) (h2 : BodyAt w S thn tv) (h3 : BodyAt w S els lv) : (Sm.mk does line col name es thn els).At w S (cellsS does line col name ev tv lv) := by
  unfold Sm.At; exact ⟨ev, tv, lv, rfl, h1, h2, h3⟩
theorem Sm.At.cells {w : World} {S : Nat → Prop} : ∀ {e : Sm} {cs : Array Value}, e.At w S cs → ∃ does line col name a b c d e f g h i, cs = cellsS does line col name (.slice a b c) (.slice d e f) (.slice g h i)
  | .mk does line col name es thn els, cs, h => by
    unfold Sm.At at h
    obtain ⟨ev, tv, lv, rfl, h1, h2, h3⟩ := h
    obtain ⟨a, b, c, rfl⟩ := kids_slice h1
    obtain ⟨d, e, f, rfl⟩ := BodyAt.slice (w := w) (S := S) h2
    obtain ⟨g, h, i, rfl⟩ := BodyAt.slice (w := w) (S := S) h3
    exact ⟨_, _, _, _, _, _, _, _, _, _, _, _, _, rfl⟩
theorem Sm.Row.lt {w : World} {S : Nat → Prop} {g o : Nat} {e : Sm} {r : List Sm} (h : Sm.Row w S g o (e :: r)) : g < w.heap.size := by
  unfold Sm.Row at h
  obtain ⟨⟨cs, h1, h2⟩, _⟩ := h
  obtain ⟨_, _, _, _, _, _, _, _, _, _, _, _, _, rfl⟩ := h1.cells
  exact World.block_lt_of_cell? _ _ (h2 0 (by decide))
mutual
theorem Sm.At.keep {w w' : World} {S S' : Nat → Prop} (hS : ∀ g, S g → g < w.heap.size → S' g) (hk : ∀ g, S g → g < w.heap.size → ∀ o, w'.cell? ⟨g, o, none⟩ = w.cell? ⟨g, o, none⟩) : ∀ (e : Sm) (cs : Array Value), e.At w S cs → e.At w' S' cs
  | .mk does line col name es thn els, cs, h => by
    unfold Sm.At at h ⊢
    obtain ⟨ev, tv, lv, rfl, h1, h2, h3⟩ := h
    refine ⟨ev, tv, lv, rfl, h1.keep hS hk, ?_, ?_⟩
    · rcases h2 with h | ⟨hne, g, o, cap, rfl, hg, h1, h2, h3⟩
      · exact .inl h
      · have hlt : g < w.heap.size := by
          obtain ⟨e, r, rfl⟩ := List.exists_cons_of_ne_nil hne
          exact h3.lt
        exact .inr ⟨hne, g, o, cap, rfl, hS g hg hlt, h1, h2, Sm.Row.keep hS hk g hg hlt o thn h3⟩
    · rcases h3 with h | ⟨hne, g, o, cap, rfl, hg, h1, h2, h3⟩
      · exact .inl h
      · have hlt : g < w.heap.size := by
          obtain ⟨e, r, rfl⟩ := List.exists_cons_of_ne_nil hne
          exact h3.lt
        exact .inr ⟨hne, g, o, cap, rfl, hS g hg hlt, h1, h2, Sm.Row.keep hS hk g hg hlt o els h3⟩
theorem Sm.Row.keep {w w' : World} {S S' : Nat → Prop} (hS : ∀ g, S g → g < w.heap.size → S' g) (hk : ∀ g, S g → g < w.heap.size → ∀ o, w'.cell? ⟨g, o, none⟩ = w.cell? ⟨g, o, none⟩) (g : Nat) (hg : S g) (hlt : g < w.heap.size) : ∀ (o : Nat) (l : List Sm), Sm.Row w S g o l → Sm.Row w' S' g o l
  | _, [], _ => by unfold Sm.Row; trivial
  | o, e :: r, h => by
    unfold Sm.Row at h ⊢
    obtain ⟨⟨cs, h1, h2⟩, h3⟩ := h
    exact ⟨⟨cs, Sm.At.keep hS hk e cs h1, fun j hj => by rw [hk g hg hlt]; exact h2 j hj⟩, Sm.Row.keep hS hk g hg hlt (o + 7) r h3⟩
end
theorem BodyAt.keep {w w' : World} {S S' : Nat → Prop} (hS : ∀ g, S g → g < w.heap.size → S' g) (hk : ∀ g, S g → g < w.heap.size → ∀ o, w'.cell? ⟨g, o, none⟩ = w.cell? ⟨g, o, none⟩) {es : List Sm} {v : Value} (h : BodyAt w S es v) : BodyAt w' S' es v := by
  rcases h with h | ⟨hne, g, o, cap, rfl, hg, h1, h2, h3⟩
  · exact .inl h
  · have hlt : g < w.heap.size := by
      obtain ⟨e, r, rfl⟩ := List.exists_cons_of_ne_nil hne
      exact h3.lt
    exact .inr ⟨hne, g, o, cap, rfl, hS g hg hlt, h1, h2, Sm.Row.keep hS hk g hg hlt o es h3⟩
theorem body_none {w : World} {S : Nat → Prop} (a : Option Addr) (cap : Nat) : BodyAt w S [] (.slice a 0 cap) := .inl ⟨rfl, _, _, rfl⟩
theorem kids_one {w : World} {S : Nat → Prop} {k : Nat} {a : Ex} {ca : Array Value} (hk : S k) (h : w.heap[k]? = some (.cells ca 47 (0, 0))) (ha : a.At w S ca) : KidsAt w S [a] (.slice (some ⟨k, 0, none⟩) 1 1) := by
  obtain ⟨k1, l1, c1, n1, m1, o1, a1, b1, d1, rfl⟩ := ha.cells
  refine .inr ⟨by simp, k, 0, 1, rfl, hk, Nat.le_refl _, by simp, ?_⟩
  unfold Ex.Row
  refine ⟨⟨_, ha, fun j hj => ?_⟩, by unfold Ex.Row; trivial⟩
  rw [Lib.cell_of_heap h, Nat.zero_add]

abbrev ParS := St → Sm × St
/-- It answers a statement in new memory, and the reader is then so. -/
def SmPost (R g : Nat) (p : Sm × St) (w : World) (e : Ending) (w' : World) : Prop := ∃ cs, e = .returned (.agg cs) ∧ p.1.At w' (w.heap.size ≤ ·) cs ∧ Went R w w' ∧ Reads R g p.2 w'
def zeroS : Array Value := #[.int .i64 0, .int .i64 0, .int .i64 0, .string ⟨#[]⟩, .slice none 0 0, .slice none 0 0, .slice none 0 0]
theorem sm_end {R g r : Nat} {S : Nat → Prop} {p : Sm × St} {cs : Array Value} {w w2 w' : World} (hs : Sets r w2 w') (hat : p.1.At w2 S cs) (hS : ∀ q, S q → w.heap.size ≤ q ∧ q ≠ r) (hr : w.heap.size ≤ r) (hR : R < r) (hw : Went R w w2) (hrd : Reads R g p.2 w2) : SmPost R g p w (.returned (.agg cs)) w' :=
  ⟨cs, rfl, Sm.At.keep (fun q hq _ => (hS q hq).1) (fun q hq _ o => World.cell?_of_block (hs.keep q (hS q hq).2)) _ _ hat, hw.sets hr hs, hrd.sets hR hs⟩
/-- What a statement's parser has laid: the answer's place, the statement under way. -/
structure LaidS (R r b : Nat) (cs : Array Value) (w W : World) : Prop where
  went : Went R w W
  res : W.heap[r]? = some (.cells zeroS 55 (0, 0))
  blk : W.heap[b]? = some (.cells cs 55 (0, 0))
theorem LaidS.went' {R r b : Nat} {cs : Array Value} {w W W' : World} (h : LaidS R r b cs w W) (hw : Went R W W') (hr : R < r) (hb : R < b) : LaidS R r b cs w W' :=
  ⟨h.went.trans hw, hw.keep h.res (by omega), hw.keep h.blk (by omega)⟩
theorem LaidS.put {R r b : Nat} {ce : Array Value} {w W : World} (h : LaidS R r b ce w W) (j : Nat) (v : Value) (hrb : r < b) (hw : w.heap.size ≤ b) : LaidS R r b (ce.setIfInBounds j v) w (W.setCell ⟨b, j, none⟩ v) :=
  ⟨went_new h.went j v hw, (Below.heap_setCell _ _ _ _ (by show r ≠ b; omega)).trans h.res, set_block _ _ _ _ _ _ h.blk⟩
theorem LaidS.alloc {R r b : Nat} {ce : Array Value} {w W : World} (h : LaidS R r b ce w W) (o : Obj) : LaidS R r b ce w (W.alloc o) :=
  ⟨went_alloc h.went o, alloc_past _ _ _ _ (Array.getElem?_eq_some_iff.1 h.res).1 h.res, alloc_past _ _ _ _ (Array.getElem?_eq_some_iff.1 h.blk).1 h.blk⟩
theorem laidS_of {R : Nat} {w w1 : World} {cs : Array Value} (hw : Went R (w.alloc (.cells zeroS 55)) w1) (hR : R < w.heap.size) : LaidS R w.heap.size w1.heap.size cs w (w1.alloc (.cells cs 55)) := by
  have hz := hw.size
  simp at hz
  exact ⟨went_alloc ((went_none (grown_alloc _ _)).trans hw) _, alloc_past _ _ _ _ (by omega) (hw.keep (alloc_at _ _ _ rfl) (by omega)), alloc_at _ _ _ rfl⟩

def pAnswer (ex : Par) : ParS := fun s => (.mk 6 s.now.line s.now.col [] [(ex s.next).1] [] [], (ex s.next).2.must [59])
set_option maxHeartbeats 2000000 in
set_option maxRecDepth 100000 in
theorem answer_any {R g n : Nat} {part : Par} (hp : ExprOk R g n part) (s : St) (w : World) (hl : s.next.left.length ≤ n) (hd : s.next.deep + 2 * s.next.left.length + 1 ≤ 300000) (h : Reads R g s w) :
    Calls Tryz.prog 119 #[.pointer (some ⟨R, 0, none⟩)] w (SmPost R g (pAnswer (pExpr part) s) w) := by
  have HP := Lib.hid hp; have HR := Lib.hid h
  have hRw := h.size
  clear hp h
  go_enter Tryz.func119, Tryz.ntmps119
  go_wp2_with (fail)
  refine (take_any R g s _ (HR.out.alloc _)).mono ?_
  rintro e w1 ⟨rfl, hw1, hr1⟩
  have hz1 := hw1.size
  simp at hz1
  have HL := Lib.hid (laidS_of (cs := cellsS 6 s.now.line s.now.col [] (.slice none 0 0) (.slice none 0 0) (.slice none 0 0)) hw1 hRw)
  have HR1 := Lib.hid hr1
  clear hw1 hr1
  unfold tokAgg
  go_wp2_with (fail)
  rw [field_at]
  simp only [Result.andThen]
  rw [Oper.upon_value]
  go_wp2_with (fail)
  refine (HP.out s.next _ hl hd (HR1.out.alloc _)).mono ?_
  rintro e w2 ⟨cs, rfl, hat, hw2, hr2⟩
  obtain ⟨k3, l3, c3, n3, m3, o3, a3, b3, d3, rfl⟩ := hat.cells
  have hz2 := hw2.size
  simp at hz2
  have hL2 := HL.out.went' hw2 hRw (by omega)
  have hbk2 : w2.heap[w1.heap.size]? = some (.cells (cellsS 6 s.now.line s.now.col [] (.slice none 0 0) (.slice none 0 0) (.slice none 0 0)) 55 (0, 0)) := hL2.blk
  obtain ⟨⟨x0, x1, x2, x3, x4, x5, x6⟩, f0, f1, f2, f3, f4, f5, f6⟩ := seven hbk2
  have HL2 := Lib.hid hL2; have HR2 := Lib.hid hr2; have HAT := Lib.hid hat
  have hlt2 : w1.heap.size < w2.heap.size := by omega
  clear hL2 hbk2 hw2 hr2 hat
  unfold cells7
  go_wp2_with (fail)
  refine (must_any R g (pExpr part s.next).2 [59] _ (by repeat (first | with_reducible (refine Reads.alloc ?_ _) | with_reducible (refine Reads.set ?_ _ _ (by omega)) | with_reducible (exact HR2.out)))).mono ?_
  rintro e w4 ⟨rfl, hw4, hr4⟩
  have hL4 := ((HL2.out.put 4 (.slice (some ⟨w2.heap.size, 0, none⟩) 1 1) (by omega) (by omega)).alloc (.cells (cells7 k3 l3 c3 n3 m3 o3 (.slice a3 b3 d3)) 47)).went' hw4 hRw (by omega)
  have hz4 := hw4.size
  simp at hz4
  have hkb : w4.heap[w2.heap.size]? = some (.cells (cells7 k3 l3 c3 n3 m3 o3 (.slice a3 b3 d3)) 47 (0, 0)) := hw4.keep (alloc_at _ _ _ (by simp)) (by omega)
  have hat4 : (pExpr part s.next).1.At w4 (fun q => w1.heap.size < q) (cells7 k3 l3 c3 n3 m3 o3 (.slice a3 b3 d3)) := by
    refine Ex.At.keep (fun q hq hlt => ?_) (fun q hq hlt o => ?_) _ _ HAT.out
    · have h9 : (w1.alloc _).heap.size ≤ q := hq
      simp at h9; omega
    · have h9 : (w1.alloc _).heap.size ≤ q := hq
      simp at h9
      rw [World.cell?_of_block (hw4.block q (by simp; omega) (by simp; omega)), World.cell?_of_block (Below.heap_alloc _ _ _ (by simp; omega)), World.cell?_of_block (Below.heap_setCell _ _ _ _ (by show q ≠ w1.heap.size; omega))]
  have hbk4 : w4.heap[w1.heap.size]? = some (.cells (cellsS 6 s.now.line s.now.col [] (.slice (some ⟨w2.heap.size, 0, none⟩) 1 1) (.slice none 0 0) (.slice none 0 0)) 55 (0, 0)) := hL4.blk
  clear x0 x1 x2 x3 x4 x5 x6 f0 f1 f2 f3 f4 f5 f6
  obtain ⟨x0, x1, x2, x3, x4, x5, x6⟩ := (seven hbk4).1
  obtain ⟨⟨z0, z1, z2, z3, z4, z5, z6⟩, h0, h1, h2, h3, h4, h5, h6⟩ := seven hL4.res
  have HL4 := Lib.hid hL4; have HR4 := Lib.hid hr4
  have HAT4 := Lib.hid (sm_at (does := 6) (line := s.now.line) (col := s.now.col) (name := []) (kids_one (S := fun q => w1.heap.size < q) (by omega) hkb hat4) (body_none none 0) (body_none none 0))
  have hlt5 : w.heap.size < w4.heap.size := by omega
  have hlt6 : w1.heap.size < w4.heap.size := by omega
  clear hL4 hr4 hw4 hkb hat4 hbk4
  go_wp2_with (fail)
  refine bodyPost_ret (v := .agg (cellsS 6 s.now.line s.now.col [] (.slice (some ⟨w2.heap.size, 0, none⟩) 1 1) (.slice none 0 0) (.slice none 0 0))) (by simp [results, Tryz.results119, go_sem, cellsS, z0, z1, z2, z3, z4, z5, z6]) rfl ?_
  refine sm_end (r := w.heap.size) (S := fun q => w1.heap.size < q) ?_ HAT4.out (fun q hq => ⟨by omega, by omega⟩) (Nat.le_refl _) hRw HL4.out.went HR4.out
  repeat (first | with_reducible (refine Sets.set ?_ _ _) | with_reducible (exact Sets.refl _ _))
end Go.Proofs.YtaomlahphlemdaaGreatDoor

namespace Go.Proofs.YtaomlahphlemdaaGreatDoor
open Go.ChangeShapes Go.WideShapes Go.ChangeAt Go.RowKit
set_option linter.unusedVariables false

/-- Behind a fault no more than one token is left. -/
def Good (s : St) : Prop := s.err ≠ 0 → s.left.length ≤ 1
theorem St.next_good {s : St} (h : Good s) : Good s.next := by
  unfold St.next; split
  · exact h
  · intro he; have := h he; simp; omega
theorem St.fail_good {s : St} (h : Good s) (e l c : Int) : Good (s.fail e l c) := by
  unfold St.fail; split
  · intro he; simp only [List.length_drop]; omega
  · exact h
theorem St.enter_good {s : St} (h : Good s) : Good s.enter := by
  unfold St.enter; simp only; split
  · exact St.fail_good h _ _ _
  · exact h
theorem St.leave_good {s : St} (h : Good s) : Good s.leave := h
theorem St.must_good {s : St} (h : Good s) (x : List UInt8) : Good (s.must x) := by
  unfold St.must; split
  · exact St.next_good h
  · exact St.fail_good h _ _ _
theorem St.want_good {s : St} (h : Good s) (k : Int) : Good (s.want k).2 := by
  unfold St.want; split
  · exact St.next_good h
  · exact St.fail_good h _ _ _
def GoodP (part : Par) : Prop := ∀ s : St, Good s → Good (part s).2
theorem chainLoop_good {part : Par} (hp : GoodP part) (xs : List (List UInt8)) : ∀ (k : Nat) (e : Ex) (s : St), Good s → Good (chainLoop part xs k e s).2
  | 0, e, s, h => h
  | k + 1, e, s, h => by
    rw [chainLoop]; split
    · exact chainLoop_good hp xs k _ _ (hp _ (St.next_good h))
    · exact h
theorem chain_good {part : Par} (hp : GoodP part) (xs : List (List UInt8)) : GoodP (chainL part xs) := fun s h => chainLoop_good hp xs _ _ _ (hp s h)
theorem rel_good {part : Par} (hp : GoodP part) : GoodP (pRel part) := fun s h => by
  unfold pRel; split
  · exact hp _ (St.next_good (hp s h))
  · exact hp s h
theorem expr_good {part : Par} (hp : GoodP part) : GoodP (pExpr part) := fun s h => St.leave_good (chain_good hp _ _ (St.enter_good h))
theorem argsLoop_good {part : Par} (hp : GoodP part) : ∀ (k : Nat) (e : List Ex) (s : St), Good s → Good (argsLoop part k e s).2
  | 0, e, s, h => h
  | k + 1, e, s, h => by
    rw [argsLoop]; split
    · exact argsLoop_good hp k _ _ (hp _ (St.next_good h))
    · exact h
theorem args_good {part : Par} (hp : GoodP part) {s : St} (h : Good s) : Good (pArgs part s).2 := argsLoop_good hp _ _ _ (hp s h)
theorem named_good {part : Par} (hp : GoodP part) (t : Tok) : GoodP (pNamed part t) := fun s h => by
  have h1 := St.next_good h
  unfold pNamed; split
  · exact St.must_good (hp _ h1) _
  · split
    · split
      · exact St.must_good h1 _
      · exact St.must_good (args_good hp h1) _
    · exact h
theorem operand_good {u : Par} (hp : GoodP u) : GoodP (pOperand u) := fun s h => St.leave_good (hp _ (St.next_good (St.enter_good h)))
theorem exprOf_good {u : Par} (hp : GoodP u) : GoodP (pExprOf u) := expr_good (chain_good (rel_good (chain_good (chain_good hp _) _)) _)
theorem unaryStep_good {u : Par} (hp : GoodP u) : GoodP (unaryStep u) := fun s h => by
  have h1 := St.next_good h
  have h2 := operand_good hp s h
  have h3 := St.must_good (exprOf_good hp _ h1) [41]
  have h4 := named_good (exprOf_good hp) s.now _ h1
  have h5 := St.fail_good h 12 s.now.line s.now.col
  unfold unaryStep
  repeat' split
  · exact h2
  · exact h2
  · exact h3
  · exact h1
  · exact h1
  · exact h1
  · exact h4
  · exact h5
theorem pUnary_good : ∀ k, GoodP (pUnary k)
  | 0 => fun s h => h
  | k + 1 => unaryStep_good (pUnary_good k)
theorem exprL_good (k : Nat) : GoodP (exprL k) := exprOf_good (pUnary_good k)

/-- It takes a token, or is a fault: fewer are left. -/
def Quick (part : Par) : Prop := ∀ s : St, Good s → 2 ≤ s.left.length → s.now.kind ≠ 0 → (part s).2.left.length < s.left.length
theorem St.next_lt {s : St} (h : 2 ≤ s.left.length) (hk : s.now.kind ≠ 0) : s.next.left.length < s.left.length := by
  unfold St.next; rw [if_neg hk]; simp; omega
theorem St.fail_lt {s : St} (hg : Good s) (h : 2 ≤ s.left.length) (e l c : Int) : (s.fail e l c).left.length < s.left.length := by
  have he : s.err = 0 := by
    by_cases he : s.err = 0
    · exact he
    · have := hg he; omega
  unfold St.fail; rw [if_pos he]; simp; omega
theorem St.enter_or {s : St} (hg : Good s) (h : 2 ≤ s.left.length) : s.enter.left.length < s.left.length ∨ s.enter.left = s.left := by
  unfold St.enter; simp only; split
  · exact .inl (St.fail_lt hg h _ _ _)
  · exact .inr rfl
theorem operand_quick {u : Par} (hf : ∀ n, Fine n u) : Quick (pOperand u) := fun s hg h hk => by
  have h3 := hf s.enter.next.left.length s.enter.next (Nat.le_refl _)
  have h2 := s.enter.next_fine
  show (u s.enter.next).2.left.length < _
  rcases St.enter_or hg h with h1 | h1
  · omega
  · have : s.enter.next.left.length < s.enter.left.length := St.next_lt (by rw [h1]; exact h) (by unfold St.now; rw [h1]; exact hk)
    rw [h1] at this; omega
theorem unaryStep_quick {u : Par} (hf : ∀ n, Fine n u) : Quick (unaryStep u) := fun s hg h hk => by
  have h1 := operand_quick hf s hg h hk
  have h2 := St.next_lt h hk
  have h3 := exprOf_fine hf s.next.left.length s.next (Nat.le_refl _)
  have h4 := (pExprOf u s.next).2.must_fine [41]
  have h5 := named_fine (exprOf_fine hf s.next.left.length) s.now s.next (Nat.le_refl _)
  have h6 := St.fail_lt hg h 12 s.now.line s.now.col
  unfold unaryStep
  repeat' split
  · exact h1
  · exact h1
  · simp only; omega
  · exact h2
  · exact h2
  · exact h2
  · omega
  · exact h6
theorem chain_quick {part : Par} (hq : Quick part) (hf : ∀ n, Fine n part) (xs : List (List UInt8)) : Quick (chainL part xs) := fun s hg h hk => by
  have h1 := hq s hg h hk
  have h2 := chainLoop_fine (hf (part s).2.left.length) xs (part s).2.left.length (part s).1 (part s).2 (Nat.le_refl _)
  unfold chainL; omega
theorem rel_quick {part : Par} (hq : Quick part) (hf : ∀ n, Fine n part) : Quick (pRel part) := fun s hg h hk => by
  have h1 := hq s hg h hk
  have h2 := (part s).2.next_fine
  have h3 := hf _ (part s).2.next (Nat.le_refl _)
  unfold pRel; split
  · simp only; omega
  · exact h1
theorem expr_quick {part : Par} (hq : Quick part) (hf : ∀ n, Fine n part) : Quick (pExpr part) := fun s hg h hk => by
  show (chainL part orMarks s.enter).2.left.length < _
  rcases St.enter_or hg h with h1 | h1
  · have h2 := chain_fine (hf s.enter.left.length) orMarks s.enter (Nat.le_refl _)
    omega
  · have := chain_quick hq hf orMarks s.enter (St.enter_good hg) (by rw [h1]; exact h) (by unfold St.now; rw [h1]; exact hk)
    rw [h1] at this; exact this
theorem exprL_quick (k : Nat) : Quick (exprL (k + 1)) := by
  have f0 := pUnary_fine (k + 1)
  have f1 : ∀ n, Fine n (pTerm (pUnary (k + 1))) := fun n => chain_fine (f0 n) termMarks
  have f2 : ∀ n, Fine n (pSum (pUnary (k + 1))) := fun n => chain_fine (f1 n) sumMarks
  have f3 : ∀ n, Fine n (pRel (pSum (pUnary (k + 1)))) := fun n => rel_fine (f2 n)
  have f4 : ∀ n, Fine n (pAndOf (pUnary (k + 1))) := fun n => chain_fine (f3 n) andMarks
  exact expr_quick (chain_quick (rel_quick (chain_quick (chain_quick (unaryStep_quick (pUnary_fine k)) f0 termMarks) f1 sumMarks) f2) f3 andMarks) f4
end Go.Proofs.YtaomlahphlemdaaGreatDoor

namespace Go.Proofs.YtaomlahphlemdaaGreatDoor
open Go.ChangeShapes Go.WideShapes Go.ChangeAt Go.RowKit
set_option linter.unusedVariables false

theorem St.want_fine (s : St) (k : Int) : (s.want k).2.deep = s.deep ∧ (s.want k).2.left.length ≤ s.left.length := by
  unfold St.want; split
  · exact s.next_fine
  · exact s.fail_fine _ _ _
/-- It answers a list of statements in new memory. -/
def BodyPost (R g : Nat) (p : List Sm × St) (w : World) (e : Ending) (w' : World) : Prop := ∃ v, e = .returned v ∧ BodyAt w' (w.heap.size ≤ ·) p.1 v ∧ Went R w w' ∧ Reads R g p.2 w'
/-- What block promises. -/
def BlockOk (R g n f : Nat) (blk : St → List Sm × St) : Prop := ∀ (s : St) (w : World), Good s → s.left.length ≤ n → s.deep + 2 * s.left.length + 1 ≤ 300000 → Reads R g s w →
  Calls Tryz.prog f #[.pointer (some ⟨R, 0, none⟩)] w (BodyPost R g (blk s) w)

def letWant (s : St) : Tok × St := s.next.want 1
def pLet (ex : Par) : ParS := fun s => (.mk 1 s.now.line s.now.col (letWant s).1.text [(ex ((letWant s).2.must [61])).1] [] [], (ex ((letWant s).2.must [61])).2.must [59])
set_option maxHeartbeats 2000000 in
set_option maxRecDepth 100000 in
theorem let_any {R g n : Nat} {part : Par} (hp : ExprOk R g n part) (s : St) (w : World) (hl : s.left.length ≤ n) (hd : s.deep + 2 * s.left.length + 1 ≤ 300000) (h : Reads R g s w) :
    Calls Tryz.prog 116 #[.pointer (some ⟨R, 0, none⟩)] w (SmPost R g (pLet (pExpr part) s) w) := by
  have HP := Lib.hid hp; have HR := Lib.hid h
  have hRw := h.size
  clear hp h
  go_enter Tryz.func116, Tryz.ntmps116
  go_wp2_with (fail)
  refine (take_any R g s _ (HR.out.alloc _)).mono ?_
  rintro e w1 ⟨rfl, hw1, hr1⟩
  have hz1 := hw1.size
  simp at hz1
  have HL := Lib.hid (laidS_of (cs := cellsS 1 s.now.line s.now.col [] (.slice none 0 0) (.slice none 0 0) (.slice none 0 0)) hw1 hRw)
  have HR1 := Lib.hid hr1
  clear hw1 hr1
  unfold tokAgg
  go_wp2_with (fail)
  rw [field_at]
  simp only [Result.andThen]
  rw [Oper.upon_value]
  go_wp2_with (fail)
  refine (want_any R g s.next 1 _ (HR1.out.alloc _)).mono ?_
  rintro e wa ⟨rfl, hwa, hra⟩
  have hza := hwa.size
  simp at hza
  have hLa := HL.out.went' hwa hRw (by omega)
  have hbka : wa.heap[w1.heap.size]? = some (.cells (cellsS 1 s.now.line s.now.col [] (.slice none 0 0) (.slice none 0 0) (.slice none 0 0)) 55 (0, 0)) := hLa.blk
  obtain ⟨⟨x0, x1, x2, x3, x4, x5, x6⟩, f0, f1, f2, f3, f4, f5, f6⟩ := seven hbka
  have HLA := Lib.hid hLa; have HRA := Lib.hid hra
  have hlta : w1.heap.size < wa.heap.size := by omega
  clear hLa hbka hwa hra
  unfold tokAgg
  go_wp2_with (fail)
  rw [field_text]
  simp only [Result.andThen]
  rw [Oper.upon_value]
  go_wp2_with (fail)
  refine (must_any R g (letWant s).2 [61] _ (HRA.out.set _ _ (by omega))).mono ?_
  rintro e wb ⟨rfl, hwb, hrb⟩
  have hzb := hwb.size
  simp at hzb
  have HLB := Lib.hid ((HLA.out.put 3 (.string ⟨(letWant s).1.text.toArray⟩) (by omega) (by omega)).went' hwb hRw (by omega)); have HRB := Lib.hid hrb
  have hf1 := s.next_fine
  have hf2 := s.next.want_fine 1
  have hf3 := (letWant s).2.must_fine [61]
  have hf4 : (letWant s).2.deep = s.deep ∧ (letWant s).2.left.length ≤ s.left.length := ⟨by unfold letWant; rw [hf2.1, hf1.1], by unfold letWant; omega⟩
  clear hwb hrb x0 x1 x2 x3 x4 x5 x6 f0 f1 f2 f3 f4 f5 f6
  go_wp2_with (fail)
  refine (HP.out ((letWant s).2.must [61]) _ (by omega) (by omega) HRB.out).mono ?_
  rintro e w2 ⟨cs, rfl, hat, hw2, hr2⟩
  obtain ⟨k3, l3, c3, n3, m3, o3, a3, b3, d3, rfl⟩ := hat.cells
  have hz2 := hw2.size
  have hL2 := HLB.out.went' hw2 hRw (by omega)
  have hbk2 : w2.heap[w1.heap.size]? = some (.cells (cellsS 1 s.now.line s.now.col (letWant s).1.text (.slice none 0 0) (.slice none 0 0) (.slice none 0 0)) 55 (0, 0)) := hL2.blk
  obtain ⟨⟨x0, x1, x2, x3, x4, x5, x6⟩, f0, f1, f2, f3, f4, f5, f6⟩ := seven hbk2
  have HL2 := Lib.hid hL2; have HR2 := Lib.hid hr2; have HAT := Lib.hid hat
  have hlt2 : w1.heap.size < w2.heap.size := by omega
  clear hL2 hbk2 hw2 hr2 hat
  unfold cells7
  go_wp2_with (fail)
  refine (must_any R g (pExpr part ((letWant s).2.must [61])).2 [59] _ (by repeat (first | with_reducible (refine Reads.alloc ?_ _) | with_reducible (refine Reads.set ?_ _ _ (by omega)) | with_reducible (exact HR2.out)))).mono ?_
  rintro e w4 ⟨rfl, hw4, hr4⟩
  have hL4 := ((HL2.out.put 4 (.slice (some ⟨w2.heap.size, 0, none⟩) 1 1) (by omega) (by omega)).alloc (.cells (cells7 k3 l3 c3 n3 m3 o3 (.slice a3 b3 d3)) 47)).went' hw4 hRw (by omega)
  have hz4 := hw4.size
  simp at hz4
  have hkb : w4.heap[w2.heap.size]? = some (.cells (cells7 k3 l3 c3 n3 m3 o3 (.slice a3 b3 d3)) 47 (0, 0)) := hw4.keep (alloc_at _ _ _ (by simp)) (by omega)
  have hat4 : (pExpr part ((letWant s).2.must [61])).1.At w4 (fun q => w1.heap.size < q) (cells7 k3 l3 c3 n3 m3 o3 (.slice a3 b3 d3)) := by
    refine Ex.At.keep (fun q hq hlt => ?_) (fun q hq hlt o => ?_) _ _ HAT.out
    · have h9 : wb.heap.size ≤ q := hq
      omega
    · have h9 : wb.heap.size ≤ q := hq
      rw [World.cell?_of_block (hw4.block q (by simp; omega) (by simp; omega)), World.cell?_of_block (Below.heap_alloc _ _ _ (by simp; omega)), World.cell?_of_block (Below.heap_setCell _ _ _ _ (by show q ≠ w1.heap.size; omega))]
  have hbk4 : w4.heap[w1.heap.size]? = some (.cells (cellsS 1 s.now.line s.now.col (letWant s).1.text (.slice (some ⟨w2.heap.size, 0, none⟩) 1 1) (.slice none 0 0) (.slice none 0 0)) 55 (0, 0)) := hL4.blk
  clear x0 x1 x2 x3 x4 x5 x6 f0 f1 f2 f3 f4 f5 f6
  obtain ⟨x0, x1, x2, x3, x4, x5, x6⟩ := (seven hbk4).1
  obtain ⟨⟨z0, z1, z2, z3, z4, z5, z6⟩, h0, h1, h2, h3, h4, h5, h6⟩ := seven hL4.res
  have HL4 := Lib.hid hL4; have HR4 := Lib.hid hr4
  have HAT4 := Lib.hid (sm_at (does := 1) (line := s.now.line) (col := s.now.col) (name := (letWant s).1.text) (kids_one (S := fun q => w1.heap.size < q) (by omega) hkb hat4) (body_none none 0) (body_none none 0))
  have hlt5 : w.heap.size < w4.heap.size := by omega
  have hlt6 : w1.heap.size < w4.heap.size := by omega
  clear hL4 hr4 hw4 hkb hat4 hbk4
  go_wp2_with (fail)
  refine bodyPost_ret (v := .agg (cellsS 1 s.now.line s.now.col (letWant s).1.text (.slice (some ⟨w2.heap.size, 0, none⟩) 1 1) (.slice none 0 0) (.slice none 0 0))) (by simp [results, Tryz.results116, go_sem, cellsS, z0, z1, z2, z3, z4, z5, z6]) rfl ?_
  refine sm_end (r := w.heap.size) (S := fun q => w1.heap.size < q) ?_ HAT4.out (fun q hq => ⟨by omega, by omega⟩) (Nat.le_refl _) hRw HL4.out.went HR4.out
  repeat (first | with_reducible (refine Sets.set ?_ _ _) | with_reducible (exact Sets.refl _ _))
end Go.Proofs.YtaomlahphlemdaaGreatDoor

namespace Go.Proofs.YtaomlahphlemdaaGreatDoor
open Go.ChangeShapes Go.WideShapes Go.ChangeAt Go.RowKit
set_option linter.unusedVariables false

theorem Reads.sets2 {R g r b : Nat} {s : St} {w w' : World} (h : Reads R g s w) (hr : R < r) (hb : R < b) (hs : Sets2 r b w w') : Reads R g s w' := by
  have h1 := h.lt; have h2 := h.low
  obtain ⟨o, cap, a1, a2, a3⟩ := h.row
  exact ⟨h.lt, ⟨o, cap, (hs.keep R (by omega) (by omega)).trans a1, a2, a3.keep fun p => World.cell?_of_block (hs.keep g (by omega) (by omega))⟩, h.last, h.len, h.deep, h.low, h.signs.keep (by rw [hs.size]; exact Nat.le_refl _) fun p => World.cell?_of_block (hs.keep 1 (by omega) (by omega))⟩
theorem sm_end2 {R g r b : Nat} {S : Nat → Prop} {p : Sm × St} {cs : Array Value} {w w2 w' : World} (hs : Sets2 r b w2 w') (hat : p.1.At w2 S cs) (hS : ∀ q, S q → w.heap.size ≤ q ∧ q ≠ r ∧ q ≠ b) (hr : w.heap.size ≤ r) (hb : w.heap.size ≤ b) (hR : R < r) (hRb : R < b) (hw : Went R w w2) (hrd : Reads R g p.2 w2) : SmPost R g p w (.returned (.agg cs)) w' :=
  ⟨cs, rfl, Sm.At.keep (fun q hq _ => (hS q hq).1) (fun q hq _ o => World.cell?_of_block (hs.keep q (hS q hq).2.1 (hS q hq).2.2)) _ _ hat,
    ⟨hs.os.trans hw.os, hs.tape.trans hw.tape, hs.output.trans hw.output, by rw [hs.size]; exact hw.size, fun k hk hne => (hs.keep k (by omega) (by omega)).trans (hw.block k hk hne)⟩, hrd.sets2 hR hRb hs⟩

def pLoop (ex : Par) (blk : St → List Sm × St) : ParS := fun s => (.mk 5 s.now.line s.now.col [] [(ex s.next).1] (blk (ex s.next).2).1 [], (blk (ex s.next).2).2)
set_option maxHeartbeats 2000000 in
set_option maxRecDepth 100000 in
theorem loop_any {R g n : Nat} {part : Par} {blk : St → List Sm × St} (hp : ExprOk R g n part) (hb : BlockOk R g n 93 blk) (hf : Fine n (pExpr part)) (hgp : GoodP (pExpr part)) (s : St) (w : World) (hgd : Good s) (hl : s.next.left.length ≤ n) (hd : s.next.deep + 2 * s.next.left.length + 1 ≤ 300000) (h : Reads R g s w) :
    Calls Tryz.prog 118 #[.pointer (some ⟨R, 0, none⟩)] w (SmPost R g (pLoop (pExpr part) blk s) w) := by
  have HP := Lib.hid hp; have HR := Lib.hid h; have HB := Lib.hid hb; have hfx := hf s.next hl
  have hRw := h.size
  clear hp h hb hf
  go_enter Tryz.func118, Tryz.ntmps118
  go_wp2_with (fail)
  refine (take_any R g s _ (HR.out.alloc _)).mono ?_
  rintro e w1 ⟨rfl, hw1, hr1⟩
  have hz1 := hw1.size
  simp at hz1
  have HL := Lib.hid (laidS_of (cs := cellsS 5 s.now.line s.now.col [] (.slice none 0 0) (.slice none 0 0) (.slice none 0 0)) hw1 hRw)
  have HR1 := Lib.hid hr1
  clear hw1 hr1
  unfold tokAgg
  go_wp2_with (fail)
  rw [field_at]
  simp only [Result.andThen]
  rw [Oper.upon_value]
  go_wp2_with (fail)
  refine (HP.out s.next _ hl hd (HR1.out.alloc _)).mono ?_
  rintro e w2 ⟨cs, rfl, hat, hw2, hr2⟩
  obtain ⟨k3, l3, c3, n3, m3, o3, a3, b3, d3, rfl⟩ := hat.cells
  have hz2 := hw2.size
  simp at hz2
  have hL2 := HL.out.went' hw2 hRw (by omega)
  have hbk2 : w2.heap[w1.heap.size]? = some (.cells (cellsS 5 s.now.line s.now.col [] (.slice none 0 0) (.slice none 0 0) (.slice none 0 0)) 55 (0, 0)) := hL2.blk
  obtain ⟨⟨x0, x1, x2, x3, x4, x5, x6⟩, f0, f1, f2, f3, f4, f5, f6⟩ := seven hbk2
  have HL2 := Lib.hid hL2; have HR2 := Lib.hid hr2; have HAT := Lib.hid hat
  have hlt2 : w1.heap.size < w2.heap.size := by omega
  clear hL2 hbk2 hw2 hr2 hat
  unfold cells7
  go_wp2_with (fail)
  refine (HB.out (pExpr part s.next).2 _ (hgp _ (St.next_good hgd)) (by omega) (by omega) (by repeat (first | with_reducible (refine Reads.alloc ?_ _) | with_reducible (refine Reads.set ?_ _ _ (by omega)) | with_reducible (exact HR2.out)))).mono ?_
  rintro e w4 ⟨v, rfl, hbody, hw4, hr4⟩
  obtain ⟨va, vk, vc, rfl⟩ := hbody.slice
  have hL4 := ((HL2.out.put 4 (.slice (some ⟨w2.heap.size, 0, none⟩) 1 1) (by omega) (by omega)).alloc (.cells (cells7 k3 l3 c3 n3 m3 o3 (.slice a3 b3 d3)) 47)).went' hw4 hRw (by omega)
  have hz4 := hw4.size
  simp at hz4
  have hkb : w4.heap[w2.heap.size]? = some (.cells (cells7 k3 l3 c3 n3 m3 o3 (.slice a3 b3 d3)) 47 (0, 0)) := hw4.keep (alloc_at _ _ _ (by simp)) (by omega)
  have hat4 : (pExpr part s.next).1.At w4 (fun q => w1.heap.size < q) (cells7 k3 l3 c3 n3 m3 o3 (.slice a3 b3 d3)) := by
    refine Ex.At.keep (fun q hq hlt => ?_) (fun q hq hlt o => ?_) _ _ HAT.out
    · have h9 : (w1.alloc _).heap.size ≤ q := hq
      simp at h9; omega
    · have h9 : (w1.alloc _).heap.size ≤ q := hq
      simp at h9
      rw [World.cell?_of_block (hw4.block q (by simp; omega) (by simp; omega)), World.cell?_of_block (Below.heap_alloc _ _ _ (by simp; omega)), World.cell?_of_block (Below.heap_setCell _ _ _ _ (by show q ≠ w1.heap.size; omega))]
  have hbk4 : w4.heap[w1.heap.size]? = some (.cells (cellsS 5 s.now.line s.now.col [] (.slice (some ⟨w2.heap.size, 0, none⟩) 1 1) (.slice none 0 0) (.slice none 0 0)) 55 (0, 0)) := hL4.blk
  clear x0 x1 x2 x3 x4 x5 x6 f0 f1 f2 f3 f4 f5 f6
  obtain ⟨⟨x0, x1, x2, x3, x4, x5, x6⟩, f0, f1, f2, f3, f4, f5, f6⟩ := seven hbk4
  obtain ⟨⟨z0, z1, z2, z3, z4, z5, z6⟩, h0, h1, h2, h3, h4, h5, h6⟩ := seven hL4.res
  have HL4 := Lib.hid hL4; have HR4 := Lib.hid hr4
  have HAT4 := Lib.hid (sm_at (does := 5) (line := s.now.line) (col := s.now.col) (name := []) (kids_one (S := fun q => w1.heap.size < q) (by omega) hkb hat4) (hbody.keep (S' := fun q => w1.heap.size < q) (fun q hq _ => by have h9 : ((w2.setCell ⟨w1.heap.size, 4, none⟩ (.slice (some ⟨w2.heap.size, 0, none⟩) 1 1)).alloc (.cells (cells7 k3 l3 c3 n3 m3 o3 (.slice a3 b3 d3)) 47)).heap.size ≤ q := hq; simp at h9; omega) (fun _ _ _ _ => rfl)) (body_none none 0))
  have hlt5 : w.heap.size < w4.heap.size := by omega
  have hlt6 : w1.heap.size < w4.heap.size := by omega
  clear hL4 hr4 hw4 hkb hat4 hbk4 hbody
  go_wp2_with (fail)
  refine bodyPost_ret (v := .agg (cellsS 5 s.now.line s.now.col [] (.slice (some ⟨w2.heap.size, 0, none⟩) 1 1) (.slice va vk vc) (.slice none 0 0))) (by simp [results, Tryz.results118, go_sem, cellsS, z0, z1, z2, z3, z4, z5, z6]) rfl ?_
  refine sm_end2 (r := w.heap.size) (b := w1.heap.size) (S := fun q => w1.heap.size < q) ?_ HAT4.out (fun q hq => ⟨by omega, by omega, by omega⟩) (Nat.le_refl _) (by omega) hRw (by omega) HL4.out.went HR4.out
  repeat (first | with_reducible (refine Sets2.set ?_ _ _) | with_reducible (refine Sets2.set' ?_ _ _) | with_reducible (exact Sets2.refl _ _ _))
end Go.Proofs.YtaomlahphlemdaaGreatDoor

namespace Go.Proofs.YtaomlahphlemdaaGreatDoor
open Go.ChangeShapes Go.WideShapes Go.ChangeAt Go.RowKit
set_option linter.unusedVariables false

def elseL : List UInt8 := [101, 108, 115, 101]
def pChoice (ex : Par) (blk oth : St → List Sm × St) : ParS := fun s =>
  if (blk (ex s.next).2).2.sees [elseL] then (.mk 4 s.now.line s.now.col [] [(ex s.next).1] (blk (ex s.next).2).1 (oth (blk (ex s.next).2).2.next).1, (oth (blk (ex s.next).2).2.next).2)
  else (.mk 4 s.now.line s.now.col [] [(ex s.next).1] (blk (ex s.next).2).1 [], (blk (ex s.next).2).2)
/-- What otherwise promises: it needs room for a part more. -/
def OtherOk (R g n : Nat) (oth : St → List Sm × St) : Prop := ∀ (s : St) (w : World), Good s → s.left.length ≤ n → s.deep + 2 * s.left.length + 3 ≤ 300000 → Reads R g s w →
  Calls Tryz.prog 132 #[.pointer (some ⟨R, 0, none⟩)] w (BodyPost R g (oth s) w)
def GoodB (blk : St → List Sm × St) : Prop := ∀ s : St, Good s → Good (blk s).2
/-- A parser of lists that keeps how deep the reader is, and makes no tokens. -/
def FineB (n : Nat) (blk : St → List Sm × St) : Prop := ∀ s : St, s.left.length ≤ n → (blk s).2.deep = s.deep ∧ (blk s).2.left.length ≤ s.left.length

set_option maxHeartbeats 2000000 in
set_option maxRecDepth 100000 in
theorem choice_any {R g n : Nat} {part : Par} {blk oth : St → List Sm × St} (hp : ExprOk R g n part) (hb : BlockOk R g n 93 blk) (ho : OtherOk R g n oth) (hf : Fine n (pExpr part)) (hfb : FineB n blk) (hgp : GoodP (pExpr part)) (hgb : GoodB blk) (s : St) (w : World) (hgd : Good s) (hl : s.next.left.length ≤ n) (hd : s.next.deep + 2 * s.next.left.length + 1 ≤ 300000) (h : Reads R g s w) :
    Calls Tryz.prog 117 #[.pointer (some ⟨R, 0, none⟩)] w (SmPost R g (pChoice (pExpr part) blk oth s) w) := by
  have HP := Lib.hid hp; have HR := Lib.hid h; have HB := Lib.hid hb; have HO := Lib.hid ho; have hfx := hf s.next hl; have hfy := hfb (pExpr part s.next).2 (by omega)
  have hRw := h.size
  clear hp h hb hf ho hfb
  go_enter Tryz.func117, Tryz.ntmps117
  go_wp2_with (fail)
  refine (take_any R g s _ (HR.out.alloc _)).mono ?_
  rintro e w1 ⟨rfl, hw1, hr1⟩
  have hz1 := hw1.size
  simp at hz1
  have HL := Lib.hid (laidS_of (cs := cellsS 4 s.now.line s.now.col [] (.slice none 0 0) (.slice none 0 0) (.slice none 0 0)) hw1 hRw)
  have HR1 := Lib.hid hr1
  clear hw1 hr1
  unfold tokAgg
  go_wp2_with (fail)
  rw [field_at]
  simp only [Result.andThen]
  rw [Oper.upon_value]
  go_wp2_with (fail)
  refine (HP.out s.next _ hl hd (HR1.out.alloc _)).mono ?_
  rintro e w2 ⟨cs, rfl, hat, hw2, hr2⟩
  obtain ⟨k3, l3, c3, n3, m3, o3, a3, b3, d3, rfl⟩ := hat.cells
  have hz2 := hw2.size
  simp at hz2
  have hL2 := HL.out.went' hw2 hRw (by omega)
  have hbk2 : w2.heap[w1.heap.size]? = some (.cells (cellsS 4 s.now.line s.now.col [] (.slice none 0 0) (.slice none 0 0) (.slice none 0 0)) 55 (0, 0)) := hL2.blk
  obtain ⟨⟨x0, x1, x2, x3, x4, x5, x6⟩, f0, f1, f2, f3, f4, f5, f6⟩ := seven hbk2
  have HL2 := Lib.hid hL2; have HR2 := Lib.hid hr2; have HAT := Lib.hid hat
  have hlt2 : w1.heap.size < w2.heap.size := by omega
  clear hL2 hbk2 hw2 hr2 hat
  unfold cells7
  go_wp2_with (fail)
  refine (HB.out (pExpr part s.next).2 _ (hgp _ (St.next_good hgd)) (by omega) (by omega) (by repeat (first | with_reducible (refine Reads.alloc ?_ _) | with_reducible (refine Reads.set ?_ _ _ (by omega)) | with_reducible (exact HR2.out)))).mono ?_
  rintro e w4 ⟨v, rfl, hbody, hw4, hr4⟩
  obtain ⟨va, vk, vc, rfl⟩ := hbody.slice
  have hL4 := ((HL2.out.put 4 (.slice (some ⟨w2.heap.size, 0, none⟩) 1 1) (by omega) (by omega)).alloc (.cells (cells7 k3 l3 c3 n3 m3 o3 (.slice a3 b3 d3)) 47)).went' hw4 hRw (by omega)
  have hz4 := hw4.size
  simp at hz4
  have hkb : w4.heap[w2.heap.size]? = some (.cells (cells7 k3 l3 c3 n3 m3 o3 (.slice a3 b3 d3)) 47 (0, 0)) := hw4.keep (alloc_at _ _ _ (by simp)) (by omega)
  have hat4 : (pExpr part s.next).1.At w4 (fun q => w1.heap.size < q) (cells7 k3 l3 c3 n3 m3 o3 (.slice a3 b3 d3)) := by
    refine Ex.At.keep (fun q hq hlt => ?_) (fun q hq hlt o => ?_) _ _ HAT.out
    · have h9 : (w1.alloc _).heap.size ≤ q := hq
      simp at h9; omega
    · have h9 : (w1.alloc _).heap.size ≤ q := hq
      simp at h9
      rw [World.cell?_of_block (hw4.block q (by simp; omega) (by simp; omega)), World.cell?_of_block (Below.heap_alloc _ _ _ (by simp; omega)), World.cell?_of_block (Below.heap_setCell _ _ _ _ (by show q ≠ w1.heap.size; omega))]
  have hbk4 : w4.heap[w1.heap.size]? = some (.cells (cellsS 4 s.now.line s.now.col [] (.slice (some ⟨w2.heap.size, 0, none⟩) 1 1) (.slice none 0 0) (.slice none 0 0)) 55 (0, 0)) := hL4.blk
  clear x0 x1 x2 x3 x4 x5 x6 f0 f1 f2 f3 f4 f5 f6
  obtain ⟨⟨x0, x1, x2, x3, x4, x5, x6⟩, f0, f1, f2, f3, f4, f5, f6⟩ := seven hbk4
  obtain ⟨⟨z0, z1, z2, z3, z4, z5, z6⟩, h0, h1, h2, h3, h4, h5, h6⟩ := seven hL4.res
  have HL4 := Lib.hid hL4; have HR4 := Lib.hid hr4
  have HKID := Lib.hid (kids_one (S := fun q => w1.heap.size < q) (by omega) hkb hat4)
  have HBOD := Lib.hid (hbody.keep (w' := w4) (S' := fun q => w1.heap.size < q) (fun q hq _ => by have h9 : ((w2.setCell ⟨w1.heap.size, 4, none⟩ (.slice (some ⟨w2.heap.size, 0, none⟩) 1 1)).alloc (.cells (cells7 k3 l3 c3 n3 m3 o3 (.slice a3 b3 d3)) 47)).heap.size ≤ q := hq; simp at h9; omega) (fun _ _ _ _ => rfl))
  have hlt5 : w.heap.size < w4.heap.size := by omega
  have hlt6 : w1.heap.size < w4.heap.size := by omega
  clear hL4 hr4 hw4 hkb hat4 hbk4 hbody
  go_wp2_with (fail)
  refine (skip_any R g (blk (pExpr part s.next).2).2 elseL _ (HR4.out.set _ _ (by omega))).mono ?_
  rintro e w5 ⟨rfl, hw5, hr5⟩
  have hz5 := hw5.size
  simp at hz5
  have hL5 := (HL4.out.put 5 (.slice va vk vc) (by omega) (by omega)).went' hw5 hRw (by omega)
  have hkeep : ∀ q, w1.heap.size < q → q < w4.heap.size → ∀ o, w5.cell? ⟨q, o, none⟩ = w4.cell? ⟨q, o, none⟩ := fun q hq hlt o => by
    rw [World.cell?_of_block (hw5.block q (by simp; omega) (by simp; omega)), World.cell?_of_block (Below.heap_setCell _ _ _ _ (by show q ≠ w1.heap.size; omega))]
  have HK5 := Lib.hid (HKID.out.keep (w' := w5) (S' := fun q => w1.heap.size < q) (fun _ h _ => h) hkeep); have HB5 := Lib.hid (HBOD.out.keep (w' := w5) (S' := fun q => w1.heap.size < q) (fun _ h _ => h) hkeep)
  have hbk5 : w5.heap[w1.heap.size]? = some (.cells (cellsS 4 s.now.line s.now.col [] (.slice (some ⟨w2.heap.size, 0, none⟩) 1 1) (.slice va vk vc) (.slice none 0 0)) 55 (0, 0)) := hL5.blk
  clear x0 x1 x2 x3 x4 x5 x6 f0 f1 f2 f3 f4 f5 f6 z0 z1 z2 z3 z4 z5 z6 h0 h1 h2 h3 h4 h5 h6
  obtain ⟨⟨x0, x1, x2, x3, x4, x5, x6⟩, f0, f1, f2, f3, f4, f5, f6⟩ := seven hbk5
  obtain ⟨⟨z0, z1, z2, z3, z4, z5, z6⟩, h0, h1, h2, h3, h4, h5, h6⟩ := seven hL5.res
  have HL5 := Lib.hid hL5; have HR5 := Lib.hid hr5
  have hlt7 : w.heap.size < w5.heap.size := by omega
  have hlt8 : w1.heap.size < w5.heap.size := by omega
  have HRB := Lib.hid (HR4.out.set (b := w1.heap.size) 5 (.slice va vk vc) (by omega))
  clear hL5 hr5 hw5 hbk5 hkeep
  cases hs : (blk (pExpr part s.next).2).2.sees [elseL]
  · have HV := Lib.hid (show pChoice (pExpr part) blk oth s = (.mk 4 s.now.line s.now.col [] [(pExpr part s.next).1] (blk (pExpr part s.next).2).1 [], (blk (pExpr part s.next).2).2) by unfold pChoice; rw [if_neg (by rw [hs]; decide)])
    have HSK := Lib.hid (show (blk (pExpr part s.next).2).2.skip elseL = (blk (pExpr part s.next).2).2 by unfold St.skip; rw [hs]; rfl)
    clear hs
    go_wp2_with (fail)
    refine bodyPost_ret (v := .agg (cellsS 4 s.now.line s.now.col [] (.slice (some ⟨w2.heap.size, 0, none⟩) 1 1) (.slice va vk vc) (.slice none 0 0))) (by simp [results, Tryz.results117, go_sem, cellsS, z0, z1, z2, z3, z4, z5, z6]) rfl ?_
    rw [HV.out]
    refine sm_end (r := w.heap.size) (S := fun q => w1.heap.size < q) ?_ (sm_at HK5.out HB5.out (body_none none 0)) (fun q hq => ⟨by omega, by omega⟩) (Nat.le_refl _) hRw HL5.out.went (by rw [← HSK.out]; exact HR5.out)
    repeat (first | with_reducible (refine Sets.set ?_ _ _) | with_reducible (exact Sets.refl _ _))
  · have hnl := next_len HRB.out hs (by decide)
    have HV := Lib.hid (show pChoice (pExpr part) blk oth s = (.mk 4 s.now.line s.now.col [] [(pExpr part s.next).1] (blk (pExpr part s.next).2).1 (oth (blk (pExpr part s.next).2).2.next).1, (oth (blk (pExpr part s.next).2).2.next).2) by unfold pChoice; rw [if_pos hs])
    have HSK := Lib.hid (show (blk (pExpr part s.next).2).2.skip elseL = (blk (pExpr part s.next).2).2.next by unfold St.skip; rw [hs]; rfl)
    clear hs
    go_wp2_with (fail)
    refine (HO.out (blk (pExpr part s.next).2).2.next _ (St.next_good (hgb _ (hgp _ (St.next_good hgd)))) (by omega) (by omega) (by rw [← HSK.out]; exact HR5.out)).mono ?_
    rintro e w6 ⟨v, rfl, hels, hw6, hr6⟩
    obtain ⟨ea, ek, ec, rfl⟩ := hels.slice
    have hz6 := hw6.size
    have hL6 := HL5.out.went' hw6 hRw (by omega)
    have hkeep : ∀ q, w1.heap.size < q → q < w5.heap.size → ∀ o, w6.cell? ⟨q, o, none⟩ = w5.cell? ⟨q, o, none⟩ := fun q hq hlt o => World.cell?_of_block (hw6.block q hlt (by simp; omega))
    have HAT6 := Lib.hid (sm_at (does := 4) (line := s.now.line) (col := s.now.col) (name := []) (HK5.out.keep (w' := w6) (S' := fun q => w1.heap.size < q) (fun _ h _ => h) hkeep) (HB5.out.keep (w' := w6) (S' := fun q => w1.heap.size < q) (fun _ h _ => h) hkeep) (hels.keep (w' := w6) (S' := fun q => w1.heap.size < q) (fun q hq _ => by have h9 : w5.heap.size ≤ q := hq; omega) (fun _ _ _ _ => rfl)))
    have hbk6 : w6.heap[w1.heap.size]? = some (.cells (cellsS 4 s.now.line s.now.col [] (.slice (some ⟨w2.heap.size, 0, none⟩) 1 1) (.slice va vk vc) (.slice none 0 0)) 55 (0, 0)) := hL6.blk
    clear x0 x1 x2 x3 x4 x5 x6 f0 f1 f2 f3 f4 f5 f6 z0 z1 z2 z3 z4 z5 z6 h0 h1 h2 h3 h4 h5 h6
    obtain ⟨⟨x0, x1, x2, x3, x4, x5, x6⟩, f0, f1, f2, f3, f4, f5, f6⟩ := seven hbk6
    obtain ⟨⟨z0, z1, z2, z3, z4, z5, z6⟩, h0, h1, h2, h3, h4, h5, h6⟩ := seven hL6.res
    have HL6 := Lib.hid hL6; have HR6 := Lib.hid hr6
    have hlt9 : w.heap.size < w6.heap.size := by omega
    have hlt10 : w1.heap.size < w6.heap.size := by omega
    clear hL6 hr6 hw6 hels hkeep hbk6
    go_wp2_with (fail)
    refine bodyPost_ret (v := .agg (cellsS 4 s.now.line s.now.col [] (.slice (some ⟨w2.heap.size, 0, none⟩) 1 1) (.slice va vk vc) (.slice ea ek ec))) (by simp [results, Tryz.results117, go_sem, cellsS, z0, z1, z2, z3, z4, z5, z6]) rfl ?_
    rw [HV.out]
    refine sm_end2 (r := w.heap.size) (b := w1.heap.size) (S := fun q => w1.heap.size < q) ?_ HAT6.out (fun q hq => ⟨by omega, by omega, by omega⟩) (Nat.le_refl _) (by omega) hRw (by omega) HL6.out.went HR6.out
    repeat (first | with_reducible (refine Sets2.set ?_ _ _) | with_reducible (refine Sets2.set' ?_ _ _) | with_reducible (exact Sets2.refl _ _ _))
end Go.Proofs.YtaomlahphlemdaaGreatDoor

namespace Go.Proofs.YtaomlahphlemdaaGreatDoor
open Go.ChangeShapes Go.WideShapes Go.ChangeAt Go.RowKit
set_option linter.unusedVariables false

def ifL : List UInt8 := [105, 102]
def pOther (blk : St → List Sm × St) (ch : ParS) : St → List Sm × St := fun s => if s.sees [ifL] then ([(ch s.enter).1], (ch s.enter).2.leave) else blk s
/-- What choice promises. -/
def ChoiceOk (R g n : Nat) (par : ParS) : Prop := ∀ (s : St) (w : World), Good s → s.next.left.length ≤ n → s.next.deep + 2 * s.next.left.length + 1 ≤ 300000 → Reads R g s w →
  Calls Tryz.prog 117 #[.pointer (some ⟨R, 0, none⟩)] w (SmPost R g (par s) w)
theorem enter_next {R g : Nat} {s : St} {w : World} {xs : List (List UInt8)} (h : Reads R g s w) (hg : Good s) (hs : s.sees xs = true) (hx : [] ∉ xs) : s.enter.next.left.length + 1 ≤ s.left.length ∧ s.enter.next.deep = s.deep + 1 := by
  have h1 := next_len h hs hx
  have h2 := s.enter.next_fine
  have h3 := s.enter_fine
  have h4 : 1 ≤ s.next.left.length := by
    have hk : s.now.kind ≠ 0 := fun hk => hx (by
      have := (now_ok h).1 hk
      unfold St.sees at hs
      rw [this] at hs
      exact of_decide_eq_true hs)
    obtain ⟨t, r, e⟩ := List.exists_cons_of_ne_nil h.last.ne
    have hn : s.now = t := by unfold St.now; rw [e]; rfl
    have := LastEnd.two (t := t) (r := r) (by rw [← e]; exact h.last) (by rw [← hn]; exact hk)
    unfold St.next; rw [if_neg hk, e]
    show 1 ≤ r.length
    cases r with
    | nil => exact absurd rfl this
    | cons => simp
  refine ⟨?_, by rw [h2.1, h3.1]⟩
  rcases St.enter_or hg (by omega) with h5 | h5
  · omega
  · have h6 : s.enter.now = s.now := by unfold St.now; rw [h5]
    have h7 : s.enter.next.left = s.next.left := by unfold St.next; rw [h6, h5]; split <;> simp [h5]
    rw [h7]; omega
def FineS (n : Nat) (par : ParS) : Prop := ∀ s : St, s.left.length ≤ n → (par s).2.deep = s.deep ∧ (par s).2.left.length ≤ s.left.length
theorem body_one {w : World} {S : Nat → Prop} {k : Nat} {a : Sm} {ca : Array Value} (hk : S k) (h : w.heap[k]? = some (.cells ca 55 (0, 0))) (ha : a.At w S ca) : BodyAt w S [a] (.slice (some ⟨k, 0, none⟩) 1 1) := by
  obtain ⟨_, _, _, _, _, _, _, _, _, _, _, _, _, rfl⟩ := ha.cells
  refine .inr ⟨by simp, k, 0, 1, rfl, hk, Nat.le_refl _, by simp, ?_⟩
  unfold Sm.Row
  refine ⟨⟨_, ha, fun j hj => ?_⟩, by unfold Sm.Row; trivial⟩
  rw [Lib.cell_of_heap h, Nat.zero_add]

set_option maxHeartbeats 2000000 in
set_option maxRecDepth 100000 in
theorem otherwise_any {R g n : Nat} {blk : St → List Sm × St} {ch : ParS} (hb : BlockOk R g (n + 1) 93 blk) (hc : ChoiceOk R g n ch) (hf : FineS (n + 1) ch) : OtherOk R g (n + 1) (pOther blk ch) := by
  intro s w hgd hl hd h
  have HB := Lib.hid hb; have HC := Lib.hid hc; have HF := Lib.hid hf; have HR := Lib.hid h
  have hRw := h.size
  have hd0 := h.deep
  clear hb hc hf h
  go_enter_defers Tryz.func132, Tryz.ntmps132
  go_wp2_with (fail)
  generalize hW : w.alloc (.cells #[.string ⟨#[105, 102]⟩] 9) = W
  have hg : w.grownBy W none := by rw [← hW]; exact grown_alloc _ _
  have hmk : Marks W w.heap.size [ifL] := by rw [← hW]; exact marks_of (alloc_at _ _ _ rfl)
  have hsz : W.heap.size = w.heap.size + 1 := by rw [← hW]; simp
  clear hW
  refine (sees_any R g s w.heap.size 1 [ifL] (by decide) W (HR.out.more hg) hmk (by omega)).mono ?_
  rintro e w1 ⟨rfl, hg1⟩
  have hz1 := hg1.size
  have HG := Lib.hid (grown_trans hg hg1)
  clear hg hmk hg1
  cases hs : s.sees [ifL]
  · have HV := Lib.hid (show pOther blk ch s = blk s by unfold pOther; rw [if_neg (by rw [hs]; decide)])
    clear hs
    go_wp2_with (fail)
    refine (HB.out s _ hgd hl (by omega) (HR.out.more HG.out)).mono ?_
    rintro e w2 ⟨v, rfl, hbody, hw2, hr2⟩
    have HBO := Lib.hid hbody; have HW2 := Lib.hid hw2; have HR2 := Lib.hid hr2
    clear hbody hw2 hr2
    go_wp2_with (fail)
    refine ⟨_, results_tmp rfl _ _ _, ?_⟩
    rw [HV.out]
    refine ⟨_, rfl, HBO.out.keep (fun q hq _ => by have h9 : w1.heap.size ≤ q := hq; omega) (fun _ _ _ _ => rfl), (went_none HG.out).trans HW2.out, HR2.out⟩
  · have HV := Lib.hid (show pOther blk ch s = ([(ch s.enter).1], (ch s.enter).2.leave) by unfold pOther; rw [if_pos hs])
    have hen := enter_next HR.out hgd hs (by decide)
    clear hs
    have hef := s.enter_fine
    go_wp2_with (fail)
    refine (enter_any R g s _ (HR.out.more HG.out) (by omega)).mono ?_
    rintro e w2 ⟨rfl, hw2, hr2⟩
    have hz2 := hw2.size
    have HW2 := Lib.hid hw2; have HR2 := Lib.hid hr2
    clear hw2 hr2
    go_wp2_with (fail)
    refine (HC.out s.enter _ (St.enter_good hgd) (by omega) (by omega) HR2.out).mono ?_
    rintro e w3 ⟨cs, rfl, hat, hw3, hr3⟩
    obtain ⟨q1, q2, q3, q4, q5, q6, q7, q8, q9, q10, q11, q12, q13, rfl⟩ := hat.cells
    have hz3 := hw3.size
    have HAT := Lib.hid hat; have HW3 := Lib.hid hw3; have HR3 := Lib.hid hr3
    clear hat hw3 hr3
    unfold cellsS
    go_wp2_with (fail)
    have hrD := HR3.out.alloc (.cells (cellsS q1 q2 q3 q4 (.slice q5 q6 q7) (.slice q8 q9 q10) (.slice q11 q12 q13)) 55)
    have hfc := HF.out s.enter (by omega)
    have hdp : (ch s.enter).2.deep = s.deep + 1 := by rw [hfc.1, hef.1]
    refine leaves_cons (f := 103) (args := #[.pointer (some ⟨R, 0, none⟩)]) (by simp) (by simp [go_sem]) ?_
    refine (leave_d R g _ .returning _ hrD (by omega)).mono ?_
    rintro e u' w'' ⟨rfl, rfl, rfl⟩
    refine ⟨_, results_tmp rfl _ _ _, ?_⟩
    rw [HV.out]
    refine ⟨_, rfl, body_one (k := w3.heap.size) (by show w.heap.size ≤ w3.heap.size; omega) ((Below.heap_setCell _ _ _ _ (by show w3.heap.size ≠ R; omega)).trans (alloc_at _ _ _ rfl)) ?_, (((went_none HG.out).trans HW2.out).trans HW3.out).trans (went_setR (went_none (grown_alloc _ _)) _ _), hrD.put1 _ (by omega)⟩
    refine Sm.At.keep (fun q hq _ => by have h9 : w2.heap.size ≤ q := hq; omega) (fun q hq hlt o => ?_) _ _ HAT.out
    have h9 : w2.heap.size ≤ q := hq
    rw [World.cell?_of_block (Below.heap_setCell _ _ _ _ (by show q ≠ R; omega)), World.cell?_of_block (Below.heap_alloc _ _ _ hlt)]
end Go.Proofs.YtaomlahphlemdaaGreatDoor

namespace Go.Proofs.YtaomlahphlemdaaGreatDoor
open Go.ChangeShapes Go.WideShapes Go.ChangeAt Go.RowKit
set_option linter.unusedVariables false

def letL : List UInt8 := [108, 101, 116]
def whileL : List UInt8 := [119, 104, 105, 108, 101]
def returnL : List UInt8 := [114, 101, 116, 117, 114, 110]
def pStmt (l c o a p : ParS) : ParS := fun s =>
  if s.now.text = letL then l s else if s.now.text = ifL then c s else if s.now.text = whileL then o s else if s.now.text = returnL then a s else p s
/-- What a function of the reader does at one reader. -/
def SmAt (R g f : Nat) (s : St) (p : Sm × St) : Prop := ∀ w : World, Reads R g s w → Calls Tryz.prog f #[.pointer (some ⟨R, 0, none⟩)] w (SmPost R g p w)

theorem stmt_case {R g : Nat} {p : Sm × St} {w w1 w2 : World} {cs : Array Value} (hg : (w.alloc (.cells zeroS 55)).grownBy w1 none) (hR : R < w.heap.size) (hw : Went R w1 w2) (hat : p.1.At w2 (w1.heap.size ≤ ·) cs) (hr : Reads R g p.2 w2) :
    w2.heap[w.heap.size]? = some (.cells zeroS 55 (0, 0)) ∧ ∀ wf, Sets w.heap.size w2 wf → SmPost R g p w (.returned (.agg cs)) wf := by
  have hz := hg.size
  simp at hz
  refine ⟨hw.keep ((went_none (R := R) hg).keep (alloc_at _ _ _ rfl) (by omega)) (by omega), fun wf hs => ?_⟩
  exact sm_end hs hat (fun q hq => by have h9 : w1.heap.size ≤ q := hq; omega) (Nat.le_refl _) hR ((went_none (grown_trans (grown_alloc _ _) hg)).trans hw) hr

set_option maxHeartbeats 1000000 in
set_option maxRecDepth 100000 in
theorem stmt_let {R g : Nat} {s : St} {p : Sm × St} (hp : SmAt R g 116 s p) (kd nm ln cl : Int)  (hnow : s.now = ⟨kd, [108, 101, 116], nm, ln, cl⟩)  : SmAt R g 104 s p := by
  intro w h
  have HP := Lib.hid hp; have HR := Lib.hid h; have HNOW := Lib.hid hnow
  have hRw := h.size
  skip
  clear hp h hnow
  go_enter Tryz.func104, Tryz.ntmps104
  go_wp2_with (fail)
  refine (now_any R g s _ (HR.out.alloc _)).mono ?_
  rintro e w1 ⟨rfl, hg1⟩
  rw [HNOW.out]
  have HG1 := Lib.hid hg1
  clear hg1
  unfold tokAgg
  go_wp2_with (fail)
  rw [field_text]
  simp only [Result.andThen]
  rw [Oper.upon_value]
  go_wp2_with (fail)
  refine (HP.out _ ((HR.out.alloc _).more HG1.out)).mono ?_
  rintro e w2 ⟨cs, rfl, hat, hw2, hr2⟩
  obtain ⟨hres, hend⟩ := stmt_case HG1.out hRw hw2 hat hr2
  obtain ⟨q1, q2, q3, q4, q5, q6, q7, q8, q9, q10, q11, q12, q13, rfl⟩ := hat.cells
  obtain ⟨⟨z0, z1, z2, z3, z4, z5, z6⟩, f0, f1, f2, f3, f4, f5, f6⟩ := seven hres
  have HE := Lib.hid hend
  clear hat hw2 hr2 hres hend
  unfold cellsS
  go_wp2_with (fail)
  refine bodyPost_ret (v := .agg (cellsS q1 q2 q3 q4 (.slice q5 q6 q7) (.slice q8 q9 q10) (.slice q11 q12 q13))) (by simp [results, Tryz.results104, go_sem, cellsS, z0, z1, z2, z3, z4, z5, z6]) rfl ?_
  refine HE.out _ ?_
  repeat (first | with_reducible (refine Sets.set ?_ _ _) | with_reducible (exact Sets.refl _ _))

set_option maxHeartbeats 1000000 in
set_option maxRecDepth 100000 in
theorem stmt_if {R g : Nat} {s : St} {p : Sm × St} (hp : SmAt R g 117 s p) (kd nm ln cl : Int)  (hnow : s.now = ⟨kd, [105, 102], nm, ln, cl⟩)  : SmAt R g 104 s p := by
  intro w h
  have HP := Lib.hid hp; have HR := Lib.hid h; have HNOW := Lib.hid hnow
  have hRw := h.size
  skip
  clear hp h hnow
  go_enter Tryz.func104, Tryz.ntmps104
  go_wp2_with (fail)
  refine (now_any R g s _ (HR.out.alloc _)).mono ?_
  rintro e w1 ⟨rfl, hg1⟩
  rw [HNOW.out]
  have HG1 := Lib.hid hg1
  clear hg1
  unfold tokAgg
  go_wp2_with (fail)
  rw [field_text]
  simp only [Result.andThen]
  rw [Oper.upon_value]
  go_wp2_with (fail)
  refine (HP.out _ ((HR.out.alloc _).more HG1.out)).mono ?_
  rintro e w2 ⟨cs, rfl, hat, hw2, hr2⟩
  obtain ⟨hres, hend⟩ := stmt_case HG1.out hRw hw2 hat hr2
  obtain ⟨q1, q2, q3, q4, q5, q6, q7, q8, q9, q10, q11, q12, q13, rfl⟩ := hat.cells
  obtain ⟨⟨z0, z1, z2, z3, z4, z5, z6⟩, f0, f1, f2, f3, f4, f5, f6⟩ := seven hres
  have HE := Lib.hid hend
  clear hat hw2 hr2 hres hend
  unfold cellsS
  go_wp2_with (fail)
  refine bodyPost_ret (v := .agg (cellsS q1 q2 q3 q4 (.slice q5 q6 q7) (.slice q8 q9 q10) (.slice q11 q12 q13))) (by simp [results, Tryz.results104, go_sem, cellsS, z0, z1, z2, z3, z4, z5, z6]) rfl ?_
  refine HE.out _ ?_
  repeat (first | with_reducible (refine Sets.set ?_ _ _) | with_reducible (exact Sets.refl _ _))

set_option maxHeartbeats 1000000 in
set_option maxRecDepth 100000 in
theorem stmt_while {R g : Nat} {s : St} {p : Sm × St} (hp : SmAt R g 118 s p) (kd nm ln cl : Int)  (hnow : s.now = ⟨kd, [119, 104, 105, 108, 101], nm, ln, cl⟩)  : SmAt R g 104 s p := by
  intro w h
  have HP := Lib.hid hp; have HR := Lib.hid h; have HNOW := Lib.hid hnow
  have hRw := h.size
  skip
  clear hp h hnow
  go_enter Tryz.func104, Tryz.ntmps104
  go_wp2_with (fail)
  refine (now_any R g s _ (HR.out.alloc _)).mono ?_
  rintro e w1 ⟨rfl, hg1⟩
  rw [HNOW.out]
  have HG1 := Lib.hid hg1
  clear hg1
  unfold tokAgg
  go_wp2_with (fail)
  rw [field_text]
  simp only [Result.andThen]
  rw [Oper.upon_value]
  go_wp2_with (fail)
  refine (HP.out _ ((HR.out.alloc _).more HG1.out)).mono ?_
  rintro e w2 ⟨cs, rfl, hat, hw2, hr2⟩
  obtain ⟨hres, hend⟩ := stmt_case HG1.out hRw hw2 hat hr2
  obtain ⟨q1, q2, q3, q4, q5, q6, q7, q8, q9, q10, q11, q12, q13, rfl⟩ := hat.cells
  obtain ⟨⟨z0, z1, z2, z3, z4, z5, z6⟩, f0, f1, f2, f3, f4, f5, f6⟩ := seven hres
  have HE := Lib.hid hend
  clear hat hw2 hr2 hres hend
  unfold cellsS
  go_wp2_with (fail)
  refine bodyPost_ret (v := .agg (cellsS q1 q2 q3 q4 (.slice q5 q6 q7) (.slice q8 q9 q10) (.slice q11 q12 q13))) (by simp [results, Tryz.results104, go_sem, cellsS, z0, z1, z2, z3, z4, z5, z6]) rfl ?_
  refine HE.out _ ?_
  repeat (first | with_reducible (refine Sets.set ?_ _ _) | with_reducible (exact Sets.refl _ _))

set_option maxHeartbeats 1000000 in
set_option maxRecDepth 100000 in
theorem stmt_return {R g : Nat} {s : St} {p : Sm × St} (hp : SmAt R g 119 s p) (kd nm ln cl : Int)  (hnow : s.now = ⟨kd, [114, 101, 116, 117, 114, 110], nm, ln, cl⟩)  : SmAt R g 104 s p := by
  intro w h
  have HP := Lib.hid hp; have HR := Lib.hid h; have HNOW := Lib.hid hnow
  have hRw := h.size
  skip
  clear hp h hnow
  go_enter Tryz.func104, Tryz.ntmps104
  go_wp2_with (fail)
  refine (now_any R g s _ (HR.out.alloc _)).mono ?_
  rintro e w1 ⟨rfl, hg1⟩
  rw [HNOW.out]
  have HG1 := Lib.hid hg1
  clear hg1
  unfold tokAgg
  go_wp2_with (fail)
  rw [field_text]
  simp only [Result.andThen]
  rw [Oper.upon_value]
  go_wp2_with (fail)
  refine (HP.out _ ((HR.out.alloc _).more HG1.out)).mono ?_
  rintro e w2 ⟨cs, rfl, hat, hw2, hr2⟩
  obtain ⟨hres, hend⟩ := stmt_case HG1.out hRw hw2 hat hr2
  obtain ⟨q1, q2, q3, q4, q5, q6, q7, q8, q9, q10, q11, q12, q13, rfl⟩ := hat.cells
  obtain ⟨⟨z0, z1, z2, z3, z4, z5, z6⟩, f0, f1, f2, f3, f4, f5, f6⟩ := seven hres
  have HE := Lib.hid hend
  clear hat hw2 hr2 hres hend
  unfold cellsS
  go_wp2_with (fail)
  refine bodyPost_ret (v := .agg (cellsS q1 q2 q3 q4 (.slice q5 q6 q7) (.slice q8 q9 q10) (.slice q11 q12 q13))) (by simp [results, Tryz.results104, go_sem, cellsS, z0, z1, z2, z3, z4, z5, z6]) rfl ?_
  refine HE.out _ ?_
  repeat (first | with_reducible (refine Sets.set ?_ _ _) | with_reducible (exact Sets.refl _ _))

set_option maxHeartbeats 1000000 in
set_option maxRecDepth 100000 in
theorem stmt_plain {R g : Nat} {s : St} {p : Sm × St} (hp : SmAt R g 120 s p) (kd nm ln cl : Int) (tx : List UInt8) (hnow : s.now = ⟨kd, tx, nm, ln, cl⟩) (h1 : tx ≠ [108, 101, 116]) (h2 : tx ≠ [105, 102]) (h3 : tx ≠ [119, 104, 105, 108, 101]) (h4 : tx ≠ [114, 101, 116, 117, 114, 110]) : SmAt R g 104 s p := by
  intro w h
  have HP := Lib.hid hp; have HR := Lib.hid h; have HNOW := Lib.hid hnow
  have hRw := h.size
  have b1 : (tx == [108, 101, 116]) = false := by simpa using h1
  have b2 : (tx == [105, 102]) = false := by simpa using h2
  have b3 : (tx == [119, 104, 105, 108, 101]) = false := by simpa using h3
  have b4 : (tx == [114, 101, 116, 117, 114, 110]) = false := by simpa using h4
  clear h1 h2 h3 h4
  clear hp h hnow
  go_enter Tryz.func104, Tryz.ntmps104
  go_wp2_with (fail)
  refine (now_any R g s _ (HR.out.alloc _)).mono ?_
  rintro e w1 ⟨rfl, hg1⟩
  rw [HNOW.out]
  have HG1 := Lib.hid hg1
  clear hg1
  unfold tokAgg
  go_wp2_with (fail)
  rw [field_text]
  simp only [Result.andThen]
  rw [Oper.upon_value]
  go_wp2_with (fail)
  refine (HP.out _ ((HR.out.alloc _).more HG1.out)).mono ?_
  rintro e w2 ⟨cs, rfl, hat, hw2, hr2⟩
  obtain ⟨hres, hend⟩ := stmt_case HG1.out hRw hw2 hat hr2
  obtain ⟨q1, q2, q3, q4, q5, q6, q7, q8, q9, q10, q11, q12, q13, rfl⟩ := hat.cells
  obtain ⟨⟨z0, z1, z2, z3, z4, z5, z6⟩, f0, f1, f2, f3, f4, f5, f6⟩ := seven hres
  have HE := Lib.hid hend
  clear hat hw2 hr2 hres hend
  unfold cellsS
  go_wp2_with (fail)
  refine bodyPost_ret (v := .agg (cellsS q1 q2 q3 q4 (.slice q5 q6 q7) (.slice q8 q9 q10) (.slice q11 q12 q13))) (by simp [results, Tryz.results104, go_sem, cellsS, z0, z1, z2, z3, z4, z5, z6]) rfl ?_
  refine HE.out _ ?_
  repeat (first | with_reducible (refine Sets.set ?_ _ _) | with_reducible (exact Sets.refl _ _))

theorem stmt_any {R g : Nat} {l c o a p : ParS} {s : St} (hl : SmAt R g 116 s (l s)) (hc : SmAt R g 117 s (c s)) (ho : SmAt R g 118 s (o s)) (ha : SmAt R g 119 s (a s)) (hp : SmAt R g 120 s (p s)) : SmAt R g 104 s (pStmt l c o a p s) := by
  unfold pStmt
  cases ht : s.now with
  | mk kd tx nm ln cl =>
    simp only
    by_cases h1 : tx = letL
    · rw [if_pos h1]; subst h1; exact stmt_let hl kd nm ln cl ht
    by_cases h2 : tx = ifL
    · rw [if_neg h1, if_pos h2]; subst h2; exact stmt_if hc kd nm ln cl ht
    by_cases h3 : tx = whileL
    · rw [if_neg h1, if_neg h2, if_pos h3]; subst h3; exact stmt_while ho kd nm ln cl ht
    by_cases h4 : tx = returnL
    · rw [if_neg h1, if_neg h2, if_neg h3, if_pos h4]; subst h4; exact stmt_return ha kd nm ln cl ht
    rw [if_neg h1, if_neg h2, if_neg h3, if_neg h4]
    exact stmt_plain hp kd nm ln cl tx ht h1 h2 h3 h4
end Go.Proofs.YtaomlahphlemdaaGreatDoor

namespace Go.Proofs.YtaomlahphlemdaaGreatDoor
open Go.ChangeShapes Go.WideShapes Go.ChangeAt Go.RowKit
set_option linter.unusedVariables false

def Ex.kind : Ex → Int | .mk k _ _ _ _ _ _ => k
def Ex.name : Ex → List UInt8 | .mk _ _ _ _ n _ _ => n
def Ex.kids : Ex → List Ex | .mk _ _ _ _ _ _ ks => ks
def pPlain (ex : Par) : ParS := fun s =>
  if (ex s).1.kind = 5 then (.mk 7 s.now.line s.now.col [] [(ex s).1] [] [], (ex s).2.must [59])
  else if (ex s).1.kind = 3 ∧ (ex s).2.sees [[61]] = true then (.mk 2 s.now.line s.now.col (ex s).1.name [(ex (ex s).2.next).1] [] [], (ex (ex s).2.next).2.must [59])
  else if (ex s).1.kind = 4 ∧ (ex s).2.sees [[61]] = true then (.mk 3 s.now.line s.now.col (ex s).1.name ((ex s).1.kids ++ [(ex (ex s).2.next).1]) [] [], (ex (ex s).2.next).2.must [59])
  else (.mk 0 s.now.line s.now.col [] [] [] [], (ex s).2.refuse.must [59])
def blockLoop (st : ParS) : Nat → List Sm → St → List Sm × St
  | 0, l, s => (l, s)
  | k + 1, l, s => if s.sees [[125]] = true ∨ s.now.kind = 0 then (l, s) else blockLoop st k (l ++ [(st s).1]) (st s).2
def blockIn (s : St) : St := (s.must [123]).enter
def pBlock (st : ParS) : St → List Sm × St := fun s =>
  ((blockLoop st (blockIn s).left.length [] (blockIn s)).1, ((blockLoop st (blockIn s).left.length [] (blockIn s)).2.must [125]).leave)
def stmtOf (ex : Par) (blk : St → List Sm × St) (ch : ParS) : ParS := pStmt (pLet ex) ch (pLoop ex blk) (pAnswer ex) (pPlain ex)
def noSm : Sm := .mk 0 0 0 [] [] [] []
/-- Blocks and choices, with so much fuel. -/
def stepsL : Nat → (St → List Sm × St) × ParS
  | 0 => (fun s => ([], s), fun s => (noSm, s))
  | n + 1 => (pBlock (stmtOf (exprL n) (stepsL n).1 (stepsL n).2),
      pChoice (exprL (n + 1)) (pBlock (stmtOf (exprL n) (stepsL n).1 (stepsL n).2)) (pOther (pBlock (stmtOf (exprL n) (stepsL n).1 (stepsL n).2)) (stepsL n).2))

theorem stepsL_succ (n : Nat) : stepsL (n + 1) = (pBlock (stmtOf (exprL n) (stepsL n).1 (stepsL n).2),
      pChoice (exprL (n + 1)) (pBlock (stmtOf (exprL n) (stepsL n).1 (stepsL n).2)) (pOther (pBlock (stmtOf (exprL n) (stepsL n).1 (stepsL n).2)) (stepsL n).2)) := by rw [stepsL]
/-- It keeps how deep the reader is, and makes no tokens, of whatever reader. -/
def FineT (s s' : St) : Prop := s'.deep = s.deep ∧ s'.left.length ≤ s.left.length
theorem FineT.trans {a b c : St} (h : FineT a b) (k : FineT b c) : FineT a c := ⟨k.1.trans h.1, Nat.le_trans k.2 h.2⟩
theorem FineT.refl (a : St) : FineT a a := ⟨rfl, Nat.le_refl _⟩
def FineE (ex : Par) : Prop := ∀ s : St, FineT s (ex s).2
def FineA (par : ParS) : Prop := ∀ s : St, FineT s (par s).2
def FineL (blk : St → List Sm × St) : Prop := ∀ s : St, FineT s (blk s).2
theorem exprL_fineE (k : Nat) : FineE (exprL k) := fun s => exprL_fine k s.left.length s (Nat.le_refl _)
/-- All that a statement's parser keeps: how deep it is, the tokens' number, that a fault leaves the end alone; behind its first token. -/
structure Neat (s : St) (s' : St) : Prop where
  fine : FineT s s'
  good : Good s → Good s'
theorem Neat.trans {a b c : St} (h : Neat a b) (k : Neat b c) : Neat a c := ⟨h.fine.trans k.fine, fun g => k.good (h.good g)⟩
theorem Neat.refl (a : St) : Neat a a := ⟨.refl a, id⟩
theorem neat_next (s : St) : Neat s s.next := ⟨s.next_fine, St.next_good⟩
theorem neat_must (s : St) (x : List UInt8) : Neat s (s.must x) := ⟨s.must_fine x, fun h => St.must_good h x⟩
theorem neat_want (s : St) (k : Int) : Neat s (s.want k).2 := ⟨s.want_fine k, fun h => St.want_good h k⟩
theorem neat_refuse (s : St) : Neat s s.refuse := ⟨s.fail_fine _ _ _, fun h => St.fail_good h _ _ _⟩
def NeatE (ex : Par) : Prop := ∀ s : St, Neat s (ex s).2
def NeatS (par : ParS) : Prop := ∀ s : St, Neat s (par s).2
def NeatL (blk : St → List Sm × St) : Prop := ∀ s : St, Neat s (blk s).2
theorem exprL_neat (k : Nat) : NeatE (exprL k) := fun s => ⟨exprL_fineE k s, exprL_good k s⟩
theorem answer_neat {ex : Par} (h : NeatE ex) (s : St) : Neat s.next (pAnswer ex s).2 := (h s.next).trans (neat_must _ _)
theorem let_neat {ex : Par} (h : NeatE ex) (s : St) : Neat s.next (pLet ex s).2 := (((neat_want s.next 1).trans (neat_must _ [61])).trans (h _)).trans (neat_must _ [59])
theorem loop_neat {ex : Par} {blk : St → List Sm × St} (h : NeatE ex) (hb : NeatL blk) (s : St) : Neat s.next (pLoop ex blk s).2 := (h s.next).trans (hb _)
theorem choice_neat {ex : Par} {blk oth : St → List Sm × St} (h : NeatE ex) (hb : NeatL blk) (ho : NeatL oth) (s : St) : Neat s.next (pChoice ex blk oth s).2 := by
  unfold pChoice; split
  · exact (((h s.next).trans (hb _)).trans (neat_next _)).trans (ho _)
  · exact (h s.next).trans (hb _)
theorem neat_deeper {s t : St} (h : Neat s.enter t) : Neat s t.leave := by
  have h1 := s.enter_fine
  refine ⟨⟨?_, ?_⟩, fun g => h.good (St.enter_good g)⟩
  · show t.deep - 1 = s.deep
    rw [h.fine.1, h1.1]; omega
  · exact Nat.le_trans h.fine.2 h1.2
theorem other_neat {blk : St → List Sm × St} {ch : ParS} (hb : NeatL blk) (hc : NeatS ch) : NeatL (pOther blk ch) := fun s => by
  unfold pOther; split
  · exact neat_deeper (hc _)
  · exact hb s
theorem plain_neat {ex : Par} (h : NeatE ex) (s : St) : Neat (ex s).2 (pPlain ex s).2 := by
  unfold pPlain
  repeat' split
  · exact neat_must _ _
  · exact ((neat_next _).trans (h _)).trans (neat_must _ _)
  · exact ((neat_next _).trans (h _)).trans (neat_must _ _)
  · exact (neat_refuse _).trans (neat_must _ _)
theorem stmt_neat {ex : Par} {blk : St → List Sm × St} {ch : ParS} (h : NeatE ex) (hb : NeatL blk) (hc : NeatS ch) : NeatS (stmtOf ex blk ch) := fun s => by
  unfold stmtOf pStmt
  repeat' split
  · exact (neat_next s).trans (let_neat h s)
  · exact hc s
  · exact (neat_next s).trans (loop_neat h hb s)
  · exact (neat_next s).trans (answer_neat h s)
  · exact (h s).trans (plain_neat h s)
theorem blockLoop_neat {st : ParS} (h : NeatS st) : ∀ (k : Nat) (l : List Sm) (s : St), Neat s (blockLoop st k l s).2
  | 0, l, s => Neat.refl s
  | k + 1, l, s => by
    rw [blockLoop]; split
    · exact Neat.refl s
    · exact (h s).trans (blockLoop_neat h k _ _)
theorem block_neat {st : ParS} (h : NeatS st) : NeatL (pBlock st) := fun s => (neat_must s [123]).trans (neat_deeper (((blockLoop_neat h _ _ _)).trans (neat_must _ [125])))
theorem choiceNeat {ex : Par} {blk oth : St → List Sm × St} (h : NeatE ex) (hb : NeatL blk) (ho : NeatL oth) : NeatS (pChoice ex blk oth) := fun s => (neat_next s).trans (choice_neat h hb ho s)
theorem steps_neat (n : Nat) : NeatL (stepsL n).1 ∧ NeatS (stepsL n).2 := by
  induction n with
  | zero => exact ⟨fun s => Neat.refl s, fun s => Neat.refl s⟩
  | succ n ih =>
    have hb := block_neat (stmt_neat (exprL_neat n) ih.1 ih.2)
    have hc := choiceNeat (exprL_neat (n + 1)) hb (other_neat hb ih.2)
    rw [stepsL_succ]
    dsimp only
    exact And.intro hb hc

/-- A choice takes its first token. -/
def QuickC (ch : ParS) : Prop := ∀ s : St, 2 ≤ s.left.length → s.now.kind ≠ 0 → (ch s).2.left.length < s.left.length
def QuickS (st : ParS) : Prop := ∀ s : St, Good s → 2 ≤ s.left.length → s.now.kind ≠ 0 → (st s).2.left.length < s.left.length
theorem choice_quick {ex : Par} {blk oth : St → List Sm × St} (h : NeatE ex) (hb : NeatL blk) (ho : NeatL oth) : QuickC (pChoice ex blk oth) := fun s h2 hk => Nat.lt_of_le_of_lt (choice_neat h hb ho s).fine.2 (St.next_lt h2 hk)
theorem stmt_quick {ex : Par} {blk : St → List Sm × St} {ch : ParS} (h : NeatE ex) (hq : Quick ex) (hb : NeatL blk) (hc : QuickC ch) : QuickS (stmtOf ex blk ch) := fun s hg h2 hk => by
  have h3 := St.next_lt h2 hk
  unfold stmtOf pStmt
  repeat' split
  · exact Nat.lt_of_le_of_lt (let_neat h s).fine.2 h3
  · exact hc s h2 hk
  · exact Nat.lt_of_le_of_lt (loop_neat h hb s).fine.2 h3
  · exact Nat.lt_of_le_of_lt (answer_neat h s).fine.2 h3
  · exact Nat.lt_of_le_of_lt (plain_neat h s).fine.2 (hq s hg h2 hk)
def stmtL (n : Nat) : ParS := stmtOf (exprL n) (stepsL n).1 (stepsL n).2
theorem stmtL_neat (n : Nat) : NeatS (stmtL n) := stmt_neat (exprL_neat n) (steps_neat n).1 (steps_neat n).2
theorem steps_quick (n : Nat) : QuickC (stepsL (n + 1)).2 := by
  obtain ⟨h1, h2⟩ := steps_neat n
  have hb := block_neat (stmt_neat (exprL_neat n) h1 h2)
  rw [stepsL_succ]
  dsimp only
  exact choice_quick (exprL_neat (n + 1)) hb (other_neat hb h2)
theorem stmtL_quick (n : Nat) : QuickS (stmtL (n + 1)) :=
  stmt_quick (exprL_neat (n + 1)) (exprL_quick n) (steps_neat (n + 1)).1 (steps_quick n)
end Go.Proofs.YtaomlahphlemdaaGreatDoor
