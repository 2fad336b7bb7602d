/-
  Statements, as Go's memory holds them; the parser: return, let.
-/
import Derived.Test.YtgnnendcgbijnaaDoorParP
namespace Go.Proofs.YtgnnendcgbijnaaDoor
open Go.ChangeShapes Go.WideShapes Go.ChangeAt Go.RowKit
set_option linter.unusedVariables false

/-- A statement. -/
inductive Sm where
  | mk (does line col : Int) (name : List UInt8) (es : List Ex) (thn els : List Sm)
def cellsS (does line col : Int) (name : List UInt8) (ev tv lv : Value) : Array Value := #[.int .i64 does, .int .i64 line, .int .i64 col, .string ⟨name.toArray⟩, ev, tv, lv]
mutual
/-- These seven cells are this statement, its parts in memory, in such blocks. -/
def Sm.At (w : World) (S : Nat → Prop) : Sm → Array Value → Prop
  | .mk does line col name es thn els, cs => ∃ ev tv lv, cs = cellsS does line col name ev tv lv ∧ KidsAt w S es ev ∧
      ((thn = [] ∧ ∃ a cap, tv = .slice a 0 cap) ∨ (thn ≠ [] ∧ ∃ g o cap, tv = .slice (some ⟨g, o, none⟩) thn.length cap ∧ S g ∧ thn.length ≤ cap ∧ thn.length ≤ 4611686018427387904 ∧ Sm.Row w S g o thn)) ∧
      ((els = [] ∧ ∃ a cap, lv = .slice a 0 cap) ∨ (els ≠ [] ∧ ∃ g o cap, lv = .slice (some ⟨g, o, none⟩) els.length cap ∧ S g ∧ els.length ≤ cap ∧ els.length ≤ 4611686018427387904 ∧ Sm.Row w S g o els))
def Sm.Row (w : World) (S : Nat → Prop) (g : Nat) : Nat → List Sm → Prop
  | _, [] => True
  | o, e :: r => (∃ cs, e.At w S cs ∧ ∀ j, j < 7 → w.cell? ⟨g, o + j, none⟩ = cs[j]?) ∧ Sm.Row w S g (o + 7) r
end
/-- A list of statements, as a slice. -/
def BodyAt (w : World) (S : Nat → Prop) (l : List Sm) (v : Value) : Prop :=
  (l = [] ∧ ∃ a cap, v = .slice a 0 cap) ∨ (l ≠ [] ∧ ∃ g o cap, v = .slice (some ⟨g, o, none⟩) l.length cap ∧ S g ∧ l.length ≤ cap ∧ l.length ≤ 4611686018427387904 ∧ Sm.Row w S g o l)
theorem BodyAt.slice {w : World} {S : Nat → Prop} {l : List Sm} {v : Value} (h : BodyAt w S l v) : ∃ a k c, v = .slice a k c := by
  rcases h with ⟨_, a, cap, rfl⟩ | ⟨_, g, o, cap, rfl, _⟩ <;> exact ⟨_, _, _, rfl⟩
theorem sm_at {w : World} {S : Nat → Prop} {does line col : Int} {name : List UInt8} {es : List Ex} {thn els : List Sm} {ev tv lv : Value} (h1 : KidsAt w S es ev) (h2 : BodyAt w S thn tv) (h3 : BodyAt w S els lv) : (Sm.mk does line col name es thn els).At w S (cellsS does line col name ev tv lv) := by
  unfold Sm.At; exact ⟨ev, tv, lv, rfl, h1, h2, h3⟩
theorem Sm.At.cells {w : World} {S : Nat → Prop} : ∀ {e : Sm} {cs : Array Value}, e.At w S cs → ∃ does line col name a b c d e f g h i, cs = cellsS does line col name (.slice a b c) (.slice d e f) (.slice g h i)
  | .mk does line col name es thn els, cs, h => by
    unfold Sm.At at h
    obtain ⟨ev, tv, lv, rfl, h1, h2, h3⟩ := h
    obtain ⟨a, b, c, rfl⟩ := kids_slice h1
    obtain ⟨d, e, f, rfl⟩ := BodyAt.slice (w := w) (S := S) h2
    obtain ⟨g, h, i, rfl⟩ := BodyAt.slice (w := w) (S := S) h3
    exact ⟨_, _, _, _, _, _, _, _, _, _, _, _, _, rfl⟩
theorem Sm.Row.lt {w : World} {S : Nat → Prop} {g o : Nat} {e : Sm} {r : List Sm} (h : Sm.Row w S g o (e :: r)) : g < w.heap.size := by
  unfold Sm.Row at h
  obtain ⟨⟨cs, h1, h2⟩, _⟩ := h
  obtain ⟨_, _, _, _, _, _, _, _, _, _, _, _, _, rfl⟩ := h1.cells
  exact World.block_lt_of_cell? _ _ (h2 0 (by decide))
mutual
theorem Sm.At.keep {w w' : World} {S S' : Nat → Prop} (hS : ∀ g, S g → g < w.heap.size → S' g) (hk : ∀ g, S g → g < w.heap.size → ∀ o, w'.cell? ⟨g, o, none⟩ = w.cell? ⟨g, o, none⟩) : ∀ (e : Sm) (cs : Array Value), e.At w S cs → e.At w' S' cs
  | .mk does line col name es thn els, cs, h => by
    unfold Sm.At at h ⊢
    obtain ⟨ev, tv, lv, rfl, h1, h2, h3⟩ := h
    refine ⟨ev, tv, lv, rfl, h1.keep hS hk, ?_, ?_⟩
    · rcases h2 with h | ⟨hne, g, o, cap, rfl, hg, h1, h2, h3⟩
      · exact .inl h
      · have hlt : g < w.heap.size := by
          obtain ⟨e, r, rfl⟩ := List.exists_cons_of_ne_nil hne
          exact h3.lt
        exact .inr ⟨hne, g, o, cap, rfl, hS g hg hlt, h1, h2, Sm.Row.keep hS hk g hg hlt o thn h3⟩
    · rcases h3 with h | ⟨hne, g, o, cap, rfl, hg, h1, h2, h3⟩
      · exact .inl h
      · have hlt : g < w.heap.size := by
          obtain ⟨e, r, rfl⟩ := List.exists_cons_of_ne_nil hne
          exact h3.lt
        exact .inr ⟨hne, g, o, cap, rfl, hS g hg hlt, h1, h2, Sm.Row.keep hS hk g hg hlt o els h3⟩
theorem Sm.Row.keep {w w' : World} {S S' : Nat → Prop} (hS : ∀ g, S g → g < w.heap.size → S' g) (hk : ∀ g, S g → g < w.heap.size → ∀ o, w'.cell? ⟨g, o, none⟩ = w.cell? ⟨g, o, none⟩) (g : Nat) (hg : S g) (hlt : g < w.heap.size) : ∀ (o : Nat) (l : List Sm), Sm.Row w S g o l → Sm.Row w' S' g o l
  | _, [], _ => by unfold Sm.Row; trivial
  | o, e :: r, h => by
    unfold Sm.Row at h ⊢
    obtain ⟨⟨cs, h1, h2⟩, h3⟩ := h
    exact ⟨⟨cs, Sm.At.keep hS hk e cs h1, fun j hj => by rw [hk g hg hlt]; exact h2 j hj⟩, Sm.Row.keep hS hk g hg hlt (o + 7) r h3⟩
end
theorem BodyAt.keep {w w' : World} {S S' : Nat → Prop} (hS : ∀ g, S g → g < w.heap.size → S' g) (hk : ∀ g, S g → g < w.heap.size → ∀ o, w'.cell? ⟨g, o, none⟩ = w.cell? ⟨g, o, none⟩) {es : List Sm} {v : Value} (h : BodyAt w S es v) : BodyAt w' S' es v := by
  rcases h with h | ⟨hne, g, o, cap, rfl, hg, h1, h2, h3⟩
  · exact .inl h
  · have hlt : g < w.heap.size := by
      obtain ⟨e, r, rfl⟩ := List.exists_cons_of_ne_nil hne
      exact h3.lt
    exact .inr ⟨hne, g, o, cap, rfl, hS g hg hlt, h1, h2, Sm.Row.keep hS hk g hg hlt o es h3⟩
theorem body_none {w : World} {S : Nat → Prop} (a : Option Addr) (cap : Nat) : BodyAt w S [] (.slice a 0 cap) := .inl ⟨rfl, _, _, rfl⟩
theorem kids_one {w : World} {S : Nat → Prop} {k : Nat} {a : Ex} {ca : Array Value} (hk : S k) (h : w.heap[k]? = some (.cells ca 51 (0, 0))) (ha : a.At w S ca) : KidsAt w S [a] (.slice (some ⟨k, 0, none⟩) 1 1) := by
  obtain ⟨k1, l1, c1, n1, m1, o1, a1, b1, d1, rfl⟩ := ha.cells
  refine .inr ⟨by simp, k, 0, 1, rfl, hk, Nat.le_refl _, by simp, ?_⟩
  unfold Ex.Row
  refine ⟨⟨_, ha, fun j hj => ?_⟩, by unfold Ex.Row; trivial⟩
  rw [Lib.cell_of_heap h, Nat.zero_add]

abbrev ParS := St → Sm × St
/-- It answers a statement in new memory, and the reader is then so. -/
def SmPost (R g : Nat) (p : Sm × St) (w : World) (e : Ending) (w' : World) : Prop := ∃ cs, e = .returned (.agg cs) ∧ p.1.At w' (w.heap.size ≤ ·) cs ∧ Went R w w' ∧ Reads R g p.2 w'
def zeroS : Array Value := #[.int .i64 0, .int .i64 0, .int .i64 0, .string ⟨#[]⟩, .slice none 0 0, .slice none 0 0, .slice none 0 0]
theorem sm_end {R g r : Nat} {S : Nat → Prop} {p : Sm × St} {cs : Array Value} {w w2 w' : World} (hs : Sets r w2 w') (hat : p.1.At w2 S cs) (hS : ∀ q, S q → w.heap.size ≤ q ∧ q ≠ r) (hr : w.heap.size ≤ r) (hR : R < r) (hw : Went R w w2) (hrd : Reads R g p.2 w2) : SmPost R g p w (.returned (.agg cs)) w' :=
  ⟨cs, rfl, Sm.At.keep (fun q hq _ => (hS q hq).1) (fun q hq _ o => World.cell?_of_block (hs.keep q (hS q hq).2)) _ _ hat, hw.sets hr hs, hrd.sets hR hs⟩
/-- What a statement's parser has laid: the answer's place, the statement under way. -/
structure LaidS (R r b : Nat) (cs : Array Value) (w W : World) : Prop where
  went : Went R w W
  res : W.heap[r]? = some (.cells zeroS 45 (0, 0))
  blk : W.heap[b]? = some (.cells cs 45 (0, 0))
theorem LaidS.went' {R r b : Nat} {cs : Array Value} {w W W' : World} (h : LaidS R r b cs w W) (hw : Went R W W') (hr : R < r) (hb : R < b) : LaidS R r b cs w W' :=
  ⟨h.went.trans hw, hw.keep h.res (by omega), hw.keep h.blk (by omega)⟩
theorem LaidS.put {R r b : Nat} {ce : Array Value} {w W : World} (h : LaidS R r b ce w W) (j : Nat) (v : Value) (hrb : r < b) (hw : w.heap.size ≤ b) : LaidS R r b (ce.setIfInBounds j v) w (W.setCell ⟨b, j, none⟩ v) :=
  ⟨went_new h.went j v hw, (Below.heap_setCell _ _ _ _ (by show r ≠ b; omega)).trans h.res, set_block _ _ _ _ _ _ h.blk⟩
theorem LaidS.alloc {R r b : Nat} {ce : Array Value} {w W : World} (h : LaidS R r b ce w W) (o : Obj) : LaidS R r b ce w (W.alloc o) :=
  ⟨went_alloc h.went o, alloc_past _ _ _ _ (Array.getElem?_eq_some_iff.1 h.res).1 h.res, alloc_past _ _ _ _ (Array.getElem?_eq_some_iff.1 h.blk).1 h.blk⟩
theorem laidS_of {R : Nat} {w w1 : World} {cs : Array Value} (hw : Went R (w.alloc (.cells zeroS 45)) w1) (hR : R < w.heap.size) : LaidS R w.heap.size w1.heap.size cs w (w1.alloc (.cells cs 45)) := by
  have hz := hw.size
  simp at hz
  exact ⟨went_alloc ((went_none (grown_alloc _ _)).trans hw) _, alloc_past _ _ _ _ (by omega) (hw.keep (alloc_at _ _ _ rfl) (by omega)), alloc_at _ _ _ rfl⟩

def pAnswer (ex : Par) : ParS := fun s => (.mk 6 s.now.line s.now.col [] [(ex s.next).1] [] [], (ex s.next).2.must [59])
set_option maxHeartbeats 2000000 in
set_option maxRecDepth 100000 in
theorem answer_any {R g n : Nat} {part : Par} (hp : ExprOk R g n part) (s : St) (w : World) (hl : s.next.left.length ≤ n) (hd : s.next.deep + 2 * s.next.left.length + 1 ≤ 300000) (h : Reads R g s w) :
    Calls Tryd.prog 71 #[.pointer (some ⟨R, 0, none⟩)] w (SmPost R g (pAnswer (pExpr part) s) w) := by
  have HP := Lib.hid hp; have HR := Lib.hid h
  have hRw := h.size
  clear hp h
  go_enter Tryd.func71, Tryd.ntmps71
  go_wp2_with (fail)
  refine (take_any R g s _ (HR.out.alloc _)).mono ?_
  rintro e w1 ⟨rfl, hw1, hr1⟩
  have hz1 := hw1.size
  simp at hz1
  have HL := Lib.hid (laidS_of (cs := cellsS 6 s.now.line s.now.col [] (.slice none 0 0) (.slice none 0 0) (.slice none 0 0)) hw1 hRw)
  have HR1 := Lib.hid hr1
  clear hw1 hr1
  unfold tokAgg
  go_wp2_with (fail)
  rw [field_at]
  simp only [Result.andThen]
  rw [Oper.upon_value]
  go_wp2_with (fail)
  refine (HP.out s.next _ hl hd (HR1.out.alloc _)).mono ?_
  rintro e w2 ⟨cs, rfl, hat, hw2, hr2⟩
  obtain ⟨k3, l3, c3, n3, m3, o3, a3, b3, d3, rfl⟩ := hat.cells
  have hz2 := hw2.size
  simp at hz2
  have hL2 := HL.out.went' hw2 hRw (by omega)
  have hbk2 : w2.heap[w1.heap.size]? = some (.cells (cellsS 6 s.now.line s.now.col [] (.slice none 0 0) (.slice none 0 0) (.slice none 0 0)) 45 (0, 0)) := hL2.blk
  obtain ⟨⟨x0, x1, x2, x3, x4, x5, x6⟩, f0, f1, f2, f3, f4, f5, f6⟩ := seven hbk2
  have HL2 := Lib.hid hL2; have HR2 := Lib.hid hr2; have HAT := Lib.hid hat
  have hlt2 : w1.heap.size < w2.heap.size := by omega
  clear hL2 hbk2 hw2 hr2 hat
  unfold cells7
  go_wp2_with (fail)
  refine (must_any R g (pExpr part s.next).2 [59] _ (by repeat (first | with_reducible (refine Reads.alloc ?_ _) | with_reducible (refine Reads.set ?_ _ _ (by omega)) | with_reducible (exact HR2.out)))).mono ?_
  rintro e w4 ⟨rfl, hw4, hr4⟩
  have hL4 := ((HL2.out.put 4 (.slice (some ⟨w2.heap.size, 0, none⟩) 1 1) (by omega) (by omega)).alloc (.cells (cells7 k3 l3 c3 n3 m3 o3 (.slice a3 b3 d3)) 51)).went' hw4 hRw (by omega)
  have hz4 := hw4.size
  simp at hz4
  have hkb : w4.heap[w2.heap.size]? = some (.cells (cells7 k3 l3 c3 n3 m3 o3 (.slice a3 b3 d3)) 51 (0, 0)) := hw4.keep (alloc_at _ _ _ (by simp)) (by omega)
  have hat4 : (pExpr part s.next).1.At w4 (fun q => w1.heap.size < q) (cells7 k3 l3 c3 n3 m3 o3 (.slice a3 b3 d3)) := by
    refine Ex.At.keep (fun q hq hlt => ?_) (fun q hq hlt o => ?_) _ _ HAT.out
    · have h9 : (w1.alloc _).heap.size ≤ q := hq
      simp at h9; omega
    · have h9 : (w1.alloc _).heap.size ≤ q := hq
      simp at h9
      rw [World.cell?_of_block (hw4.block q (by simp; omega) (by simp; omega)), World.cell?_of_block (Below.heap_alloc _ _ _ (by simp; omega)), World.cell?_of_block (Below.heap_setCell _ _ _ _ (by show q ≠ w1.heap.size; omega))]
  have hbk4 : w4.heap[w1.heap.size]? = some (.cells (cellsS 6 s.now.line s.now.col [] (.slice (some ⟨w2.heap.size, 0, none⟩) 1 1) (.slice none 0 0) (.slice none 0 0)) 45 (0, 0)) := hL4.blk
  clear x0 x1 x2 x3 x4 x5 x6 f0 f1 f2 f3 f4 f5 f6
  obtain ⟨x0, x1, x2, x3, x4, x5, x6⟩ := (seven hbk4).1
  obtain ⟨⟨z0, z1, z2, z3, z4, z5, z6⟩, h0, h1, h2, h3, h4, h5, h6⟩ := seven hL4.res
  have HL4 := Lib.hid hL4; have HR4 := Lib.hid hr4
  have HAT4 := Lib.hid (sm_at (does := 6) (line := s.now.line) (col := s.now.col) (name := []) (kids_one (S := fun q => w1.heap.size < q) (by omega) hkb hat4) (body_none none 0) (body_none none 0))
  have hlt5 : w.heap.size < w4.heap.size := by omega
  have hlt6 : w1.heap.size < w4.heap.size := by omega
  clear hL4 hr4 hw4 hkb hat4 hbk4
  go_wp2_with (fail)
  refine bodyPost_ret (v := .agg (cellsS 6 s.now.line s.now.col [] (.slice (some ⟨w2.heap.size, 0, none⟩) 1 1) (.slice none 0 0) (.slice none 0 0))) (by simp [results, Tryd.results71, go_sem, cellsS, z0, z1, z2, z3, z4, z5, z6]) rfl ?_
  refine sm_end (r := w.heap.size) (S := fun q => w1.heap.size < q) ?_ HAT4.out (fun q hq => ⟨by omega, by omega⟩) (Nat.le_refl _) hRw HL4.out.went HR4.out
  repeat (first | with_reducible (refine Sets.set ?_ _ _) | with_reducible (exact Sets.refl _ _))
end Go.Proofs.YtgnnendcgbijnaaDoor
