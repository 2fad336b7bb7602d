/-
  The parser: a size, a global.
-/
import Derived.Test.YtgnnendcgbijnaaDoorParX
namespace Go.Proofs.YtgnnendcgbijnaaDoor
open Go.ChangeShapes Go.WideShapes Go.ChangeAt Go.RowKit
set_option linter.unusedVariables false

def pSize (s : St) : Int × St := if (s.want 2).1.num < 1 ∨ 4096 < (s.want 2).1.num then ((s.want 2).1.num, (s.want 2).2.fail 31 (s.want 2).1.line (s.want 2).1.col) else ((s.want 2).1.num, (s.want 2).2)
theorem size_neat (s : St) : Neat s (pSize s).2 := by
  unfold pSize; split
  · exact (neat_want s 2).trans ⟨St.fail_fine _ _ _ _, fun h => St.fail_good h _ _ _⟩
  · exact neat_want s 2
theorem want_num {R g : Nat} {s : St} {w : World} (h : Reads R g s w) (k : Int) : InI64 (s.want k).1.num := by
  unfold St.want; split
  · exact (now_ok h).2
  · show InI64 0
    exact in0
set_option maxHeartbeats 2000000 in
set_option maxRecDepth 100000 in
theorem size_any (R g : Nat) (s : St) (w : World) (h : Reads R g s w) : Calls Tryd.prog 41 #[.pointer (some ⟨R, 0, none⟩)] w (Post R g (pSize s).2 (.int .i64 (pSize s).1) w) := by
  have HR := Lib.hid h
  have hRw := h.size
  have hin := want_num h 2
  clear h
  go_enter Tryd.func41, Tryd.ntmps41
  go_wp2_with (fail)
  refine (want_any R g s 2 _ HR.out).mono ?_
  rintro e w1 ⟨rfl, hw1, hr1⟩
  have hz1 := hw1.size
  have HW1 := Lib.hid hw1; have HR1 := Lib.hid hr1
  clear hw1 hr1
  generalize hp : s.want 2 = p at *
  obtain ⟨⟨kd, tx, nm, ln, cl⟩, s1⟩ := p
  have HP := Lib.hid hp
  clear hp
  unfold tokAgg
  simp only at hin ⊢
  by_cases h1 : nm < 1
  · have HV := Lib.hid (show pSize s = (nm, s1.fail 31 ln cl) by unfold pSize; rw [HP.out]; rw [if_pos (.inl h1)])
    go_wp2_with (fail)
    refine (fail_any R g s1 31 ln cl _ (HR1.out.alloc _)).mono ?_
    rintro e w2 ⟨rfl, hw2, hr2⟩
    have hk2 : w2.heap[w1.heap.size]? = some (.cells (tokCells ⟨kd, tx, nm, ln, cl⟩) 68 (0, 0)) := hw2.keep (alloc_at _ _ _ rfl) (by omega)
    obtain ⟨y0, y1, y2, y3, y4⟩ := five hk2
    have HW2 := Lib.hid hw2; have HR2 := Lib.hid hr2
    have hz2 := hw2.size
    simp at hz2
    clear hw2 hr2 hk2
    go_wp2_with (fail)
    go_ret
    rw [HV.out]
    exact ⟨rfl, (went_alloc HW1.out _).trans HW2.out, HR2.out⟩
  · by_cases h2 : 4096 < nm
    · have HV := Lib.hid (show pSize s = (nm, s1.fail 31 ln cl) by unfold pSize; rw [HP.out]; rw [if_pos (.inr h2)])
      go_wp2_with (fail)
      refine (fail_any R g s1 31 ln cl _ (HR1.out.alloc _)).mono ?_
      rintro e w2 ⟨rfl, hw2, hr2⟩
      have hk2 : w2.heap[w1.heap.size]? = some (.cells (tokCells ⟨kd, tx, nm, ln, cl⟩) 68 (0, 0)) := hw2.keep (alloc_at _ _ _ rfl) (by omega)
      obtain ⟨y0, y1, y2, y3, y4⟩ := five hk2
      have HW2 := Lib.hid hw2; have HR2 := Lib.hid hr2
      have hz2 := hw2.size
      simp at hz2
      clear hw2 hr2 hk2
      go_wp2_with (fail)
      go_ret
      rw [HV.out]
      exact ⟨rfl, (went_alloc HW1.out _).trans HW2.out, HR2.out⟩
    · have HV := Lib.hid (show pSize s = (nm, s1) by unfold pSize; rw [HP.out]; rw [if_neg (by simp only; omega)])
      go_wp2_with (fail)
      go_ret
      rw [HV.out]
      exact ⟨rfl, went_alloc HW1.out _, HR1.out.alloc _⟩

/-- A global. -/
structure Gl where
  name : List UInt8
  hold : Int
  size : Int
  line : Int
  col : Int
def cellsG (x : Gl) : Array Value := #[.string ⟨x.name.toArray⟩, .int .i64 x.hold, .int .i64 x.size, .int .i64 x.line, .int .i64 x.col]
def zeroG : Array Value := #[.string ⟨#[]⟩, .int .i64 0, .int .i64 0, .int .i64 0, .int .i64 0]
def pGlobal (h : Int) (s : St) : Gl × St :=
  if (letWant s).2.sees [[91]] then (⟨(letWant s).1.text, h, (pSize (letWant s).2.next).1, (letWant s).1.line, (letWant s).1.col⟩, ((pSize (letWant s).2.next).2.must [93]).must [59])
  else (⟨(letWant s).1.text, h, 0, (letWant s).1.line, (letWant s).1.col⟩, (letWant s).2.must [59])
theorem global_neat (h : Int) (s : St) : Neat s.next (pGlobal h s).2 := by
  unfold pGlobal; split
  · exact ((((neat_want s.next 1).trans (neat_next _)).trans (size_neat _)).trans (neat_must _ _)).trans (neat_must _ _)
  · exact (neat_want s.next 1).trans (neat_must _ _)
/-- It answers a global, and the reader is then so. -/
def GlPost (R g : Nat) (p : Gl × St) (w : World) (e : Ending) (w' : World) : Prop := e = .returned (.agg (cellsG p.1)) ∧ Went R w w' ∧ Reads R g p.2 w'
theorem five' {w : World} {b : Nat} {c0 c1 c2 c3 c4 : Value} {t : TypeId} (h : w.heap[b]? = some (.cells #[c0, c1, c2, c3, c4] t (0, 0))) :
    (w.cell? ⟨b, 0, none⟩ = some c0 ∧ w.cell? ⟨b, 1, none⟩ = some c1 ∧ w.cell? ⟨b, 2, none⟩ = some c2 ∧ w.cell? ⟨b, 3, none⟩ = some c3 ∧ w.cell? ⟨b, 4, none⟩ = some c4) ∧
    w.frozen? ⟨b, 0, none⟩ = false ∧ w.frozen? ⟨b, 1, none⟩ = false ∧ w.frozen? ⟨b, 2, none⟩ = false ∧ w.frozen? ⟨b, 3, none⟩ = false ∧ w.frozen? ⟨b, 4, none⟩ = false := by
  refine ⟨⟨?_, ?_, ?_, ?_, ?_⟩, ?_, ?_, ?_, ?_, ?_⟩
  all_goals first | (rw [Lib.cell_of_heap h]; rfl) | exact Lib.frozen_of_heap h _
/-- What global and function have laid: the answer's place, what is under way. -/
structure Laid5 (R r b : Nat) (t : TypeId) (cz cs : Array Value) (w W : World) : Prop where
  went : Went R w W
  res : W.heap[r]? = some (.cells cz t (0, 0))
  blk : W.heap[b]? = some (.cells cs t (0, 0))
theorem Laid5.went' {R r b : Nat} {t : TypeId} {cz cs : Array Value} {w W W' : World} (h : Laid5 R r b t cz cs w W) (hw : Went R W W') (hr : R < r) (hb : R < b) : Laid5 R r b t cz cs w W' :=
  ⟨h.went.trans hw, hw.keep h.res (by omega), hw.keep h.blk (by omega)⟩
theorem Laid5.put {R r b : Nat} {t : TypeId} {cz cs : Array Value} {w W : World} (h : Laid5 R r b t cz cs w W) (j : Nat) (v : Value) (hrb : r < b) (hw : w.heap.size ≤ b) : Laid5 R r b t cz (cs.setIfInBounds j v) w (W.setCell ⟨b, j, none⟩ v) :=
  ⟨went_new h.went j v hw, (Below.heap_setCell _ _ _ _ (by show r ≠ b; omega)).trans h.res, set_block _ _ _ _ _ _ h.blk⟩
theorem Laid5.alloc {R r b : Nat} {t : TypeId} {cz cs : Array Value} {w W : World} (h : Laid5 R r b t cz cs w W) (o : Obj) : Laid5 R r b t cz cs w (W.alloc o) :=
  ⟨went_alloc h.went o, alloc_past _ _ _ _ (Array.getElem?_eq_some_iff.1 h.res).1 h.res, alloc_past _ _ _ _ (Array.getElem?_eq_some_iff.1 h.blk).1 h.blk⟩
theorem laid5_of {R : Nat} {t : TypeId} {cz cs ct : Array Value} {w w1 : World} (hw : Went R (w.alloc (.cells cz t)) w1) (hR : R < w.heap.size) : Laid5 R w.heap.size (w1.heap.size + 1) t cz cs w ((w1.alloc (.cells ct 68)).alloc (.cells cs t)) := by
  have hz := hw.size
  simp at hz
  exact ⟨went_alloc (went_alloc ((went_none (grown_alloc _ _)).trans hw) _) _, alloc_past _ _ _ _ (by simp; omega) (alloc_past _ _ _ _ (by omega) (hw.keep (alloc_at _ _ _ rfl) (by omega))), alloc_at _ _ _ (by simp)⟩

theorem gl_end {R g r : Nat} {p : Gl × St} {w w2 w' : World} (hs : Sets r w2 w') (hr : w.heap.size ≤ r) (hR : R < r) (hw : Went R w w2) (hrd : Reads R g p.2 w2) : GlPost R g p w (.returned (.agg (cellsG p.1))) w' :=
  ⟨rfl, hw.sets hr hs, hrd.sets hR hs⟩

set_option maxHeartbeats 2000000 in
set_option maxRecDepth 100000 in
theorem global_any (R g : Nat) (hd : Int) (s : St) (w : World) (h : Reads R g s w) : Calls Tryd.prog 19 #[.pointer (some ⟨R, 0, none⟩), .int .i64 hd] w (GlPost R g (pGlobal hd s) w) := by
  have HR := Lib.hid h
  have hRw := h.size
  clear h
  go_enter Tryd.func19, Tryd.ntmps19
  go_wp2_with (fail)
  refine (take_any R g s _ (HR.out.alloc _)).mono ?_
  rintro e w0 ⟨rfl, hw0, hr0⟩
  have HW0 := Lib.hid hw0; have HR0 := Lib.hid hr0
  clear hw0 hr0
  go_wp2_with (fail)
  refine (want_any R g s.next 1 _ HR0.out).mono ?_
  rintro e w1 ⟨rfl, hw1, hr1⟩
  have hw1' := HW0.out.trans hw1
  have hz1 := hw1'.size
  simp at hz1
  have HL := Lib.hid (laid5_of (ct := tokCells (letWant s).1) (cs := cellsG ⟨(letWant s).1.text, hd, 0, (letWant s).1.line, (letWant s).1.col⟩) hw1' hRw)
  have HR1 := Lib.hid hr1
  clear hw1 hr1 hw1'
  unfold tokAgg
  go_wp2_with (fail)
  refine (skip_any R g (letWant s).2 [91] _ ((HR1.out.alloc _).alloc _)).mono ?_
  rintro e w2 ⟨rfl, hw2, hr2⟩
  have hz2 := hw2.size
  simp at hz2
  have hL2 := HL.out.went' hw2 hRw (by omega)
  obtain ⟨⟨x0, x1, x2, x3, x4⟩, f0, f1, f2, f3, f4⟩ := five' hL2.blk
  have HL2 := Lib.hid hL2; have HR2 := Lib.hid hr2
  have hlt2 : w1.heap.size + 1 < w2.heap.size := by omega
  clear hL2 hw2 hr2
  cases hs : (letWant s).2.sees [[91]]
  · have HV := Lib.hid (show pGlobal hd s = (⟨(letWant s).1.text, hd, 0, (letWant s).1.line, (letWant s).1.col⟩, (letWant s).2.must [59]) by unfold pGlobal; rw [if_neg (by rw [hs]; decide)])
    have HSK := Lib.hid (show (letWant s).2.skip [91] = (letWant s).2 by unfold St.skip; rw [hs]; rfl)
    clear hs
    go_wp2_with (fail)
    refine (must_any R g (letWant s).2 [59] _ (by rw [← HSK.out]; exact HR2.out)).mono ?_
    rintro e w3 ⟨rfl, hw3, hr3⟩
    have hz3 := hw3.size
    have hL3 := HL2.out.went' hw3 hRw (by omega)
    clear x0 x1 x2 x3 x4 f0 f1 f2 f3 f4
    obtain ⟨x0, x1, x2, x3, x4⟩ := (five' hL3.blk).1
    obtain ⟨⟨z0, z1, z2, z3, z4⟩, h0, h1, h2, h3, h4⟩ := five' hL3.res
    have HL3 := Lib.hid hL3; have HR3 := Lib.hid hr3
    have hlt3 : w1.heap.size + 1 < w3.heap.size := by omega
    have hlt4 : w.heap.size < w3.heap.size := by omega
    clear hL3 hw3 hr3
    go_wp2_with (fail)
    refine bodyPost_ret (v := .agg (cellsG ⟨(letWant s).1.text, hd, 0, (letWant s).1.line, (letWant s).1.col⟩)) (by simp [results, Tryd.results19, go_sem, cellsG, z0, z1, z2, z3, z4]) rfl ?_
    rw [HV.out]
    refine gl_end (r := w.heap.size) ?_ (Nat.le_refl _) hRw HL3.out.went HR3.out
    repeat (first | with_reducible (refine Sets.set ?_ _ _) | with_reducible (exact Sets.refl _ _))
  · have HV := Lib.hid (show pGlobal hd s = (⟨(letWant s).1.text, hd, (pSize (letWant s).2.next).1, (letWant s).1.line, (letWant s).1.col⟩, ((pSize (letWant s).2.next).2.must [93]).must [59]) by unfold pGlobal; rw [if_pos hs])
    have HSK := Lib.hid (show (letWant s).2.skip [91] = (letWant s).2.next by unfold St.skip; rw [hs]; rfl)
    clear hs
    go_wp2_with (fail)
    refine (size_any R g (letWant s).2.next _ (by rw [← HSK.out]; exact HR2.out)).mono ?_
    rintro e w3 ⟨rfl, hw3, hr3⟩
    have hz3 := hw3.size
    have hL3 := HL2.out.went' hw3 hRw (by omega)
    clear x0 x1 x2 x3 x4 f0 f1 f2 f3 f4
    obtain ⟨⟨x0, x1, x2, x3, x4⟩, f0, f1, f2, f3, f4⟩ := five' hL3.blk
    have HL3 := Lib.hid hL3; have HR3 := Lib.hid hr3
    have hlt3 : w1.heap.size + 1 < w3.heap.size := by omega
    clear hL3 hw3 hr3
    go_wp2_with (fail)
    refine (must_any R g (pSize (letWant s).2.next).2 [93] _ (HR3.out.set _ _ (by omega))).mono ?_
    rintro e w4 ⟨rfl, hw4, hr4⟩
    have HW4 := Lib.hid hw4; have HR4 := Lib.hid hr4
    have hz4 := hw4.size
    simp at hz4
    clear hw4 hr4
    go_wp2_with (fail)
    refine (must_any R g ((pSize (letWant s).2.next).2.must [93]) [59] _ HR4.out).mono ?_
    rintro e w5 ⟨rfl, hw5, hr5⟩
    have hz5 := hw5.size
    have hL5 := (HL3.out.put 2 (.int .i64 (pSize (letWant s).2.next).1) (by omega) (by omega)).went' (HW4.out.trans hw5) hRw (by omega)
    clear x0 x1 x2 x3 x4 f0 f1 f2 f3 f4
    have hbk5 : w5.heap[w1.heap.size + 1]? = some (.cells (cellsG ⟨(letWant s).1.text, hd, (pSize (letWant s).2.next).1, (letWant s).1.line, (letWant s).1.col⟩) 75 (0, 0)) := hL5.blk
    obtain ⟨x0, x1, x2, x3, x4⟩ := (five' hbk5).1
    obtain ⟨⟨z0, z1, z2, z3, z4⟩, h0, h1, h2, h3, h4⟩ := five' hL5.res
    have HL5 := Lib.hid hL5; have HR5 := Lib.hid hr5
    have hlt5 : w1.heap.size + 1 < w5.heap.size := by omega
    have hlt6 : w.heap.size < w5.heap.size := by omega
    clear hL5 hw5 hr5 hbk5
    go_wp2_with (fail)
    refine bodyPost_ret (v := .agg (cellsG ⟨(letWant s).1.text, hd, (pSize (letWant s).2.next).1, (letWant s).1.line, (letWant s).1.col⟩)) (by simp [results, Tryd.results19, go_sem, cellsG, z0, z1, z2, z3, z4]) rfl ?_
    rw [HV.out]
    refine gl_end (r := w.heap.size) ?_ (Nat.le_refl _) hRw HL5.out.went HR5.out
    repeat (first | with_reducible (refine Sets.set ?_ _ _) | with_reducible (exact Sets.refl _ _))
end Go.Proofs.YtgnnendcgbijnaaDoor
