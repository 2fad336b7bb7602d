/-
  The parser: a size, a global.
  The parser: parameters, a function.
  The parser: a function.
-/
import Derived.Test.YtaomlahphlemdaaGreatDoorParX
namespace Go.Proofs.YtaomlahphlemdaaGreatDoor
open Go.ChangeShapes Go.WideShapes Go.ChangeAt Go.RowKit
set_option linter.unusedVariables false

def pSize (s : St) : Int × St := if (s.want 2).1.num < 1 ∨ 4096 < (s.want 2).1.num then ((s.want 2).1.num, (s.want 2).2.fail 31 (s.want 2).1.line (s.want 2).1.col) else ((s.want 2).1.num, (s.want 2).2)
theorem size_neat (s : St) : Neat s (pSize s).2 := by
  unfold pSize; split
  · exact (neat_want s 2).trans ⟨St.fail_fine _ _ _ _, fun h => St.fail_good h _ _ _⟩
  · exact neat_want s 2
theorem want_num {R g : Nat} {s : St} {w : World} (h : Reads R g s w) (k : Int) : InI64 (s.want k).1.num := by
  unfold St.want; split
  · exact (now_ok h).2
  · show InI64 0
    exact in0
set_option maxHeartbeats 2000000 in
set_option maxRecDepth 100000 in
theorem size_any (R g : Nat) (s : St) (w : World) (h : Reads R g s w) : Calls Tryz.prog 89 #[.pointer (some ⟨R, 0, none⟩)] w (Post R g (pSize s).2 (.int .i64 (pSize s).1) w) := by
  have HR := Lib.hid h
  have hRw := h.size
  have hin := want_num h 2
  clear h
  go_enter Tryz.func89, Tryz.ntmps89
  go_wp2_with (fail)
  refine (want_any R g s 2 _ HR.out).mono ?_
  rintro e w1 ⟨rfl, hw1, hr1⟩
  have hz1 := hw1.size
  have HW1 := Lib.hid hw1; have HR1 := Lib.hid hr1
  clear hw1 hr1
  generalize hp : s.want 2 = p at *
  obtain ⟨⟨kd, tx, nm, ln, cl⟩, s1⟩ := p
  have HP := Lib.hid hp
  clear hp
  unfold tokAgg
  simp only at hin ⊢
  by_cases h1 : nm < 1
  · have HV := Lib.hid (show pSize s = (nm, s1.fail 31 ln cl) by unfold pSize; rw [HP.out]; rw [if_pos (.inl h1)])
    go_wp2_with (fail)
    refine (fail_any R g s1 31 ln cl _ (HR1.out.alloc _)).mono ?_
    rintro e w2 ⟨rfl, hw2, hr2⟩
    have hk2 : w2.heap[w1.heap.size]? = some (.cells (tokCells ⟨kd, tx, nm, ln, cl⟩) 132 (0, 0)) := hw2.keep (alloc_at _ _ _ rfl) (by omega)
    obtain ⟨y0, y1, y2, y3, y4⟩ := five hk2
    have HW2 := Lib.hid hw2; have HR2 := Lib.hid hr2
    have hz2 := hw2.size
    simp at hz2
    clear hw2 hr2 hk2
    go_wp2_with (fail)
    go_ret
    rw [HV.out]
    exact ⟨rfl, (went_alloc HW1.out _).trans HW2.out, HR2.out⟩
  · by_cases h2 : 4096 < nm
    · have HV := Lib.hid (show pSize s = (nm, s1.fail 31 ln cl) by unfold pSize; rw [HP.out]; rw [if_pos (.inr h2)])
      go_wp2_with (fail)
      refine (fail_any R g s1 31 ln cl _ (HR1.out.alloc _)).mono ?_
      rintro e w2 ⟨rfl, hw2, hr2⟩
      have hk2 : w2.heap[w1.heap.size]? = some (.cells (tokCells ⟨kd, tx, nm, ln, cl⟩) 132 (0, 0)) := hw2.keep (alloc_at _ _ _ rfl) (by omega)
      obtain ⟨y0, y1, y2, y3, y4⟩ := five hk2
      have HW2 := Lib.hid hw2; have HR2 := Lib.hid hr2
      have hz2 := hw2.size
      simp at hz2
      clear hw2 hr2 hk2
      go_wp2_with (fail)
      go_ret
      rw [HV.out]
      exact ⟨rfl, (went_alloc HW1.out _).trans HW2.out, HR2.out⟩
    · have HV := Lib.hid (show pSize s = (nm, s1) by unfold pSize; rw [HP.out]; rw [if_neg (by simp only; omega)])
      go_wp2_with (fail)
      go_ret
      rw [HV.out]
      exact ⟨rfl, went_alloc HW1.out _, HR1.out.alloc _⟩

/-- A global. -/
structure Gl where
  name : List UInt8
  hold : Int
  size : Int
  line : Int
  col : Int
def cellsG (x : Gl) : Array Value := #[.string ⟨x.name.toArray⟩, .int .i64 x.hold, .int .i64 x.size, .int .i64 x.line, .int .i64 x.col]
def zeroG : Array Value := #[.string ⟨#[]⟩, .int .i64 0, .int .i64 0, .int .i64 0, .int .i64 0]
def pGlobal (h : Int) (s : St) : Gl × St :=
  if (letWant s).2.sees [[91]] then (⟨(letWant s).1.text, h, (pSize (letWant s).2.next).1, (letWant s).1.line, (letWant s).1.col⟩, ((pSize (letWant s).2.next).2.must [93]).must [59])
  else (⟨(letWant s).1.text, h, 0, (letWant s).1.line, (letWant s).1.col⟩, (letWant s).2.must [59])
theorem global_neat (h : Int) (s : St) : Neat s.next (pGlobal h s).2 := by
  unfold pGlobal; split
  · exact ((((neat_want s.next 1).trans (neat_next _)).trans (size_neat _)).trans (neat_must _ _)).trans (neat_must _ _)
  · exact (neat_want s.next 1).trans (neat_must _ _)
/-- It answers a global, and the reader is then so. -/
def GlPost (R g : Nat) (p : Gl × St) (w : World) (e : Ending) (w' : World) : Prop := e = .returned (.agg (cellsG p.1)) ∧ Went R w w' ∧ Reads R g p.2 w'
theorem five' {w : World} {b : Nat} {c0 c1 c2 c3 c4 : Value} {t : TypeId} (h : w.heap[b]? = some (.cells #[c0, c1, c2, c3, c4] t (0, 0))) :
    (w.cell? ⟨b, 0, none⟩ = some c0 ∧ w.cell? ⟨b, 1, none⟩ = some c1 ∧ w.cell? ⟨b, 2, none⟩ = some c2 ∧ w.cell? ⟨b, 3, none⟩ = some c3 ∧ w.cell? ⟨b, 4, none⟩ = some c4) ∧
    w.frozen? ⟨b, 0, none⟩ = false ∧ w.frozen? ⟨b, 1, none⟩ = false ∧ w.frozen? ⟨b, 2, none⟩ = false ∧ w.frozen? ⟨b, 3, none⟩ = false ∧ w.frozen? ⟨b, 4, none⟩ = false := by
  refine ⟨⟨?_, ?_, ?_, ?_, ?_⟩, ?_, ?_, ?_, ?_, ?_⟩
  all_goals first | (rw [Lib.cell_of_heap h]; rfl) | exact Lib.frozen_of_heap h _
/-- What global and function have laid: the answer's place, what is under way. -/
structure Laid5 (R r b : Nat) (t : TypeId) (cz cs : Array Value) (w W : World) : Prop where
  went : Went R w W
  res : W.heap[r]? = some (.cells cz t (0, 0))
  blk : W.heap[b]? = some (.cells cs t (0, 0))
theorem Laid5.went' {R r b : Nat} {t : TypeId} {cz cs : Array Value} {w W W' : World} (h : Laid5 R r b t cz cs w W) (hw : Went R W W') (hr : R < r) (hb : R < b) : Laid5 R r b t cz cs w W' :=
  ⟨h.went.trans hw, hw.keep h.res (by omega), hw.keep h.blk (by omega)⟩
theorem Laid5.put {R r b : Nat} {t : TypeId} {cz cs : Array Value} {w W : World} (h : Laid5 R r b t cz cs w W) (j : Nat) (v : Value) (hrb : r < b) (hw : w.heap.size ≤ b) : Laid5 R r b t cz (cs.setIfInBounds j v) w (W.setCell ⟨b, j, none⟩ v) :=
  ⟨went_new h.went j v hw, (Below.heap_setCell _ _ _ _ (by show r ≠ b; omega)).trans h.res, set_block _ _ _ _ _ _ h.blk⟩
theorem Laid5.alloc {R r b : Nat} {t : TypeId} {cz cs : Array Value} {w W : World} (h : Laid5 R r b t cz cs w W) (o : Obj) : Laid5 R r b t cz cs w (W.alloc o) :=
  ⟨went_alloc h.went o, alloc_past _ _ _ _ (Array.getElem?_eq_some_iff.1 h.res).1 h.res, alloc_past _ _ _ _ (Array.getElem?_eq_some_iff.1 h.blk).1 h.blk⟩
theorem laid5_of {R : Nat} {t : TypeId} {cz cs ct : Array Value} {w w1 : World} (hw : Went R (w.alloc (.cells cz t)) w1) (hR : R < w.heap.size) : Laid5 R w.heap.size (w1.heap.size + 1) t cz cs w ((w1.alloc (.cells ct 132)).alloc (.cells cs t)) := by
  have hz := hw.size
  simp at hz
  exact ⟨went_alloc (went_alloc ((went_none (grown_alloc _ _)).trans hw) _) _, alloc_past _ _ _ _ (by simp; omega) (alloc_past _ _ _ _ (by omega) (hw.keep (alloc_at _ _ _ rfl) (by omega))), alloc_at _ _ _ (by simp)⟩

theorem gl_end {R g r : Nat} {p : Gl × St} {w w2 w' : World} (hs : Sets r w2 w') (hr : w.heap.size ≤ r) (hR : R < r) (hw : Went R w w2) (hrd : Reads R g p.2 w2) : GlPost R g p w (.returned (.agg (cellsG p.1))) w' :=
  ⟨rfl, hw.sets hr hs, hrd.sets hR hs⟩

set_option maxHeartbeats 2000000 in
set_option maxRecDepth 100000 in
theorem global_any (R g : Nat) (hd : Int) (s : St) (w : World) (h : Reads R g s w) : Calls Tryz.prog 60 #[.pointer (some ⟨R, 0, none⟩), .int .i64 hd] w (GlPost R g (pGlobal hd s) w) := by
  have HR := Lib.hid h
  have hRw := h.size
  clear h
  go_enter Tryz.func60, Tryz.ntmps60
  go_wp2_with (fail)
  refine (take_any R g s _ (HR.out.alloc _)).mono ?_
  rintro e w0 ⟨rfl, hw0, hr0⟩
  have HW0 := Lib.hid hw0; have HR0 := Lib.hid hr0
  clear hw0 hr0
  go_wp2_with (fail)
  refine (want_any R g s.next 1 _ HR0.out).mono ?_
  rintro e w1 ⟨rfl, hw1, hr1⟩
  have hw1' := HW0.out.trans hw1
  have hz1 := hw1'.size
  simp at hz1
  have HL := Lib.hid (laid5_of (ct := tokCells (letWant s).1) (cs := cellsG ⟨(letWant s).1.text, hd, 0, (letWant s).1.line, (letWant s).1.col⟩) hw1' hRw)
  have HR1 := Lib.hid hr1
  clear hw1 hr1 hw1'
  unfold tokAgg
  go_wp2_with (fail)
  refine (skip_any R g (letWant s).2 [91] _ ((HR1.out.alloc _).alloc _)).mono ?_
  rintro e w2 ⟨rfl, hw2, hr2⟩
  have hz2 := hw2.size
  simp at hz2
  have hL2 := HL.out.went' hw2 hRw (by omega)
  obtain ⟨⟨x0, x1, x2, x3, x4⟩, f0, f1, f2, f3, f4⟩ := five' hL2.blk
  have HL2 := Lib.hid hL2; have HR2 := Lib.hid hr2
  have hlt2 : w1.heap.size + 1 < w2.heap.size := by omega
  clear hL2 hw2 hr2
  cases hs : (letWant s).2.sees [[91]]
  · have HV := Lib.hid (show pGlobal hd s = (⟨(letWant s).1.text, hd, 0, (letWant s).1.line, (letWant s).1.col⟩, (letWant s).2.must [59]) by unfold pGlobal; rw [if_neg (by rw [hs]; decide)])
    have HSK := Lib.hid (show (letWant s).2.skip [91] = (letWant s).2 by unfold St.skip; rw [hs]; rfl)
    clear hs
    go_wp2_with (fail)
    refine (must_any R g (letWant s).2 [59] _ (by rw [← HSK.out]; exact HR2.out)).mono ?_
    rintro e w3 ⟨rfl, hw3, hr3⟩
    have hz3 := hw3.size
    have hL3 := HL2.out.went' hw3 hRw (by omega)
    clear x0 x1 x2 x3 x4 f0 f1 f2 f3 f4
    obtain ⟨x0, x1, x2, x3, x4⟩ := (five' hL3.blk).1
    obtain ⟨⟨z0, z1, z2, z3, z4⟩, h0, h1, h2, h3, h4⟩ := five' hL3.res
    have HL3 := Lib.hid hL3; have HR3 := Lib.hid hr3
    have hlt3 : w1.heap.size + 1 < w3.heap.size := by omega
    have hlt4 : w.heap.size < w3.heap.size := by omega
    clear hL3 hw3 hr3
    go_wp2_with (fail)
    refine bodyPost_ret (v := .agg (cellsG ⟨(letWant s).1.text, hd, 0, (letWant s).1.line, (letWant s).1.col⟩)) (by simp [results, Tryz.results60, go_sem, cellsG, z0, z1, z2, z3, z4]) rfl ?_
    rw [HV.out]
    refine gl_end (r := w.heap.size) ?_ (Nat.le_refl _) hRw HL3.out.went HR3.out
    repeat (first | with_reducible (refine Sets.set ?_ _ _) | with_reducible (exact Sets.refl _ _))
  · have HV := Lib.hid (show pGlobal hd s = (⟨(letWant s).1.text, hd, (pSize (letWant s).2.next).1, (letWant s).1.line, (letWant s).1.col⟩, ((pSize (letWant s).2.next).2.must [93]).must [59]) by unfold pGlobal; rw [if_pos hs])
    have HSK := Lib.hid (show (letWant s).2.skip [91] = (letWant s).2.next by unfold St.skip; rw [hs]; rfl)
    clear hs
    go_wp2_with (fail)
    refine (size_any R g (letWant s).2.next _ (by rw [← HSK.out]; exact HR2.out)).mono ?_
    rintro e w3 ⟨rfl, hw3, hr3⟩
    have hz3 := hw3.size
    have hL3 := HL2.out.went' hw3 hRw (by omega)
    clear x0 x1 x2 x3 x4 f0 f1 f2 f3 f4
    obtain ⟨⟨x0, x1, x2, x3, x4⟩, f0, f1, f2, f3, f4⟩ := five' hL3.blk
    have HL3 := Lib.hid hL3; have HR3 := Lib.hid hr3
    have hlt3 : w1.heap.size + 1 < w3.heap.size := by omega
    clear hL3 hw3 hr3
    go_wp2_with (fail)
    refine (must_any R g (pSize (letWant s).2.next).2 [93] _ (HR3.out.set _ _ (by omega))).mono ?_
    rintro e w4 ⟨rfl, hw4, hr4⟩
    have HW4 := Lib.hid hw4; have HR4 := Lib.hid hr4
    have hz4 := hw4.size
    simp at hz4
    clear hw4 hr4
    go_wp2_with (fail)
    refine (must_any R g ((pSize (letWant s).2.next).2.must [93]) [59] _ HR4.out).mono ?_
    rintro e w5 ⟨rfl, hw5, hr5⟩
    have hz5 := hw5.size
    have hL5 := (HL3.out.put 2 (.int .i64 (pSize (letWant s).2.next).1) (by omega) (by omega)).went' (HW4.out.trans hw5) hRw (by omega)
    clear x0 x1 x2 x3 x4 f0 f1 f2 f3 f4
    have hbk5 : w5.heap[w1.heap.size + 1]? = some (.cells (cellsG ⟨(letWant s).1.text, hd, (pSize (letWant s).2.next).1, (letWant s).1.line, (letWant s).1.col⟩) 51 (0, 0)) := hL5.blk
    obtain ⟨x0, x1, x2, x3, x4⟩ := (five' hbk5).1
    obtain ⟨⟨z0, z1, z2, z3, z4⟩, h0, h1, h2, h3, h4⟩ := five' hL5.res
    have HL5 := Lib.hid hL5; have HR5 := Lib.hid hr5
    have hlt5 : w1.heap.size + 1 < w5.heap.size := by omega
    have hlt6 : w.heap.size < w5.heap.size := by omega
    clear hL5 hw5 hr5 hbk5
    go_wp2_with (fail)
    refine bodyPost_ret (v := .agg (cellsG ⟨(letWant s).1.text, hd, (pSize (letWant s).2.next).1, (letWant s).1.line, (letWant s).1.col⟩)) (by simp [results, Tryz.results60, go_sem, cellsG, z0, z1, z2, z3, z4]) rfl ?_
    rw [HV.out]
    refine gl_end (r := w.heap.size) ?_ (Nat.le_refl _) hRw HL5.out.went HR5.out
    repeat (first | with_reducible (refine Sets.set ?_ _ _) | with_reducible (exact Sets.refl _ _))
end Go.Proofs.YtaomlahphlemdaaGreatDoor

namespace Go.Proofs.YtaomlahphlemdaaGreatDoor
open Go.ChangeShapes Go.WideShapes Go.ChangeAt Go.RowKit
set_option linter.unusedVariables false

def strV (x : List UInt8) : Value := .string ⟨x.toArray⟩
/-- Texts, as a slice. -/
def StrsAt (w : World) (S : Nat → Prop) (l : List (List UInt8)) (v : Value) : Prop :=
  (l = [] ∧ ∃ a cap, v = .slice a 0 cap) ∨ (l ≠ [] ∧ ∃ g o cap, v = .slice (some ⟨g, o, none⟩) l.length cap ∧ S g ∧ g < w.heap.size ∧ l.length ≤ cap ∧ l.length ≤ 4611686018427387904 ∧ ∀ j x, l[j]? = some x → w.cell? ⟨g, o + j, none⟩ = some (strV x))
theorem StrsAt.keep {w w' : World} {S S' : Nat → Prop} (hz : w.heap.size ≤ w'.heap.size) (hS : ∀ g, S g → g < w.heap.size → S' g) (hk : ∀ g, S g → g < w.heap.size → ∀ o, w'.cell? ⟨g, o, none⟩ = w.cell? ⟨g, o, none⟩) {l : List (List UInt8)} {v : Value} (h : StrsAt w S l v) : StrsAt w' S' l v := by
  rcases h with h | ⟨hne, g, o, cap, rfl, hg, hlt, h1, h2, h3⟩
  · exact .inl h
  · exact .inr ⟨hne, g, o, cap, rfl, hS g hg hlt, by omega, h1, h2, fun j x hj => (hk g hg hlt _).trans (h3 j x hj)⟩
theorem StrsAt.slice {w : World} {S : Nat → Prop} {l : List (List UInt8)} {v : Value} (h : StrsAt w S l v) : ∃ a k c, v = .slice a k c := by
  rcases h with ⟨_, a, cap, rfl⟩ | ⟨_, g, o, cap, rfl, _⟩ <;> exact ⟨_, _, _, rfl⟩
def paramsLoop : Nat → List (List UInt8) → St → List (List UInt8) × St
  | 0, ps, s => (ps, s)
  | k + 1, ps, s => if s.sees [[44]] then paramsLoop k (ps ++ [(s.next.want 1).1.text]) (s.next.want 1).2 else (ps, s)
def pParams (s : St) : List (List UInt8) × St := paramsLoop (s.want 1).2.left.length [(s.want 1).1.text] (s.want 1).2
theorem paramsLoop_neat : ∀ (k : Nat) (ps : List (List UInt8)) (s : St), Neat s (paramsLoop k ps s).2
  | 0, ps, s => .refl s
  | k + 1, ps, s => by
    rw [paramsLoop]; split
    · exact ((neat_next s).trans (neat_want _ 1)).trans (paramsLoop_neat k _ _)
    · exact .refl s
theorem params_neat (s : St) : Neat s (pParams s).2 := (neat_want s 1).trans (paramsLoop_neat _ _ _)
theorem infoStr : (Tryz.prog.info? 9).map (fun i => (i.zero, i.size, i.bytes)) = some (some (.string ⟨#[]⟩), 1, 16) := by kernel_rfl
def StrsPost (R g : Nat) (p : List (List UInt8) × St) (w : World) (e : Ending) (w' : World) : Prop := ∃ v, e = .returned v ∧ StrsAt w' (w.heap.size ≤ ·) p.1 v ∧ Went R w w' ∧ Reads R g p.2 w'
structure ParRow (R g : Nat) (N : Nat) (goal : List (List UInt8) × St) (out : Value) (w0 w : World) : Prop where
  went : Went R w0 w
  now : ∃ (k b cap : Nat) (ps : List (List UInt8)) (s : St), out = .slice (some ⟨b, 0, none⟩) ps.length cap ∧ w0.heap.size ≤ b ∧ R < w0.heap.size ∧ w.ownsRow w0.heap.size 9 1 out ps.length (ps.map strV) ∧ Reads R g s w ∧
    s.left.length ≤ k ∧ ps.length + s.left.length ≤ N + 1 ∧ ps ≠ [] ∧ paramsLoop k ps s = goal

set_option maxHeartbeats 2000000 in
set_option maxRecDepth 100000 in
theorem params_any (R g : Nat) (s : St) (w : World) (h : Reads R g s w) : Calls Tryz.prog 92 #[.pointer (some ⟨R, 0, none⟩)] w (StrsPost R g (pParams s) w) := by
  obtain ⟨i0, hi, hz⟩ := Option.map_eq_some_iff.1 infoStr
  obtain ⟨hz0, hz1, hz2⟩ : i0.zero = some (.string ⟨#[]⟩) ∧ i0.size = 1 ∧ i0.bytes = 16 := by simpa using hz
  have HI := Lib.hid hi; have HZ0 := Lib.hid hz0; have HZ1 := Lib.hid hz1; have HZ2 := Lib.hid hz2
  have HR := Lib.hid h
  have hRw := h.size
  have hlen := h.len
  clear h hz hi hz0 hz1 hz2
  go_enter Tryz.func92, Tryz.ntmps92
  go_wp2_with (fail)
  refine (want_any R g s 1 _ HR.out).mono ?_
  rintro e w1 ⟨rfl, hw1, hr1⟩
  have hz1 := hw1.size
  have hf1 := (s.want_fine 1).2
  have HAR := Lib.hid (show ParRow R g s.left.length (pParams s) (.slice (some ⟨w1.heap.size, 0, none⟩) 1 1) w (w1.alloc (.cells #[strV (s.want 1).1.text] 9)) from
    ⟨went_alloc hw1 _, (s.want 1).2.left.length, w1.heap.size, 1, [(s.want 1).1.text], (s.want 1).2, rfl, hz1, hRw,
      ⟨rfl, .inr ⟨w1.heap.size, 1, _, rfl, hz1, heap_alloc_new _ _, Nat.le_refl _, by unfold maxLen; omega, rfl, rfl⟩⟩,
      hr1.alloc _, Nat.le_refl _, by simp; omega, by simp, rfl⟩)
  clear hw1 hr1 hf1
  unfold tokAgg
  go_wp2_with (fail)
  rw [field_text]
  simp only [Result.andThen]
  rw [Oper.upon_value]
  go_wp2_with (fail)
  go_loopw [3] (fun out wr => ParRow R g s.left.length (pParams s) out w wr) (fun _ wr => lenOf wr R)
  case atStart => exact HAR.out
  case round =>
    obtain ⟨hwt, k, b, cap, ps, s2, rfl, hb0, hRw0, hown, hrd, hlk, hes, hne, hgo⟩ := hrel
    have HWT := Lib.hid hwt; have HOWN := Lib.hid hown; have HRD := Lib.hid hrd; have HGO := Lib.hid hgo; have HNE := Lib.hid hne
    have hl1 : 1 ≤ s2.left.length := by have := hrd.last.ne; cases hq : s2.left with | nil => exact absurd hq this | cons => simp
    have hbw := (hown.lt b rfl).2
    clear hwt hown hrd hgo hne HAR
    obtain ⟨k, rfl⟩ : ∃ q, k = q + 1 := ⟨k - 1, by omega⟩
    go_wp2_with (fail)
    refine (skip_any R g s2 [44] _ HRD.out).mono ?_
    rintro e' w2 ⟨rfl, hw2, hr2⟩
    have hsz2 := hw2.size
    have HW2 := Lib.hid hw2; have HR2 := Lib.hid hr2
    clear hw2 hr2
    cases hs : s2.sees [[44]]
    · have HGE := Lib.hid (show pParams s = (ps, s2) by rw [← HGO.out, paramsLoop, hs]; rfl)
      have HSK := Lib.hid (show s2.skip [44] = s2 by unfold St.skip; rw [hs]; rfl)
      clear hs
      go_wp2_with (fail)
      go_ret
      rw [HGE.out]
      have hr2 : Reads R g s2 w2 := by rw [← HSK.out]; exact HR2.out
      have hown2 := HOWN.out.kept HW2.out (.inr (by simp [Value.ownBlock]; omega))
      refine ⟨_, rfl, .inr ⟨HNE.out, b, 0, cap, rfl, hb0, by omega, ?_, by show ps.length ≤ 4611686018427387904; omega, fun j x hj => ?_⟩, HWT.out.trans HW2.out, hr2⟩
      · rcases hown2.2 with ⟨hv, _⟩ | ⟨g', cap', cur, hv, _, _, hle, _⟩
        · cases hv
        · cases hv; exact hle
      · have := hown2.cells (g := b) rfl j (strV x) (by rw [List.getElem?_map, hj]; rfl)
        rwa [Go.WideShapes.add_plain] at this
    · have hnl := next_len HRD.out hs (by decide)
      have HGE := Lib.hid (show paramsLoop k (ps ++ [(s2.next.want 1).1.text]) (s2.next.want 1).2 = pParams s by rw [← HGO.out, paramsLoop, hs]; rfl)
      have HSK := Lib.hid (show s2.skip [44] = s2.next by unfold St.skip; rw [hs]; rfl)
      clear hs
      go_wp2_with (fail)
      refine (want_any R g s2.next 1 _ (by rw [← HSK.out]; exact HR2.out)).mono ?_
      rintro e' w3 ⟨rfl, hw3, hr3⟩
      have hsz3 := hw3.size
      have hf2 := (s2.next.want_fine 1).2
      have hwb := HW2.out.trans hw3
      have hown3 := HOWN.out.kept hwb (.inr (by simp [Value.ownBlock]; omega))
      have HWB := Lib.hid hwb; have HOWN3 := Lib.hid hown3; have HR3 := Lib.hid hr3
      clear hwb hown3 hr3 hw3
      unfold tokAgg
      go_wp2_with (fail)
      rw [field_text]
      simp only [Result.andThen]
      rw [Oper.upon_value]
      go_wp2_with (first | (at_builtin; refine wpList_append_lies _ rfl _ _ 56 rfl w.heap.size 9 i0 (.string ⟨#[]⟩) 1 16 Tryz.underlying56 HI.out HZ0.out HZ1.out HZ2.out rfl (by decide) _ ps.length (ps.map strV) rfl ?hown ⟨w3.heap.size, 0, none⟩ 1 1 [strV (s2.next.want 1).1.text] rfl rfl ?hnews (by intro u hu; simp only [List.mem_singleton] at hu; subst hu; rfl) (by decide) ?h63 ?hby ?hba (w3.heap.size + 1) ?hH ?_))
      case hown => exact HOWN3.out.alloc _
      case hnews => exact cells_at _ [strV (s2.next.want 1).1.text] _ _ rfl
      case h63 => unfold maxLen; omega
      case hby => omega
      case hba => simp; omega
      case hH => simp
      intro b2 cap2 w4 hown4 hgrow4 hat4 hlt4
      have hb2 : b2 = b ∨ b2 = w3.heap.size + 1 := by rcases hat4 with h | h; exact .inl (by simpa [Value.ownBlock] using h.symm); exact .inr h
      have hgr : (w3.alloc (.cells #[strV (s2.next.want 1).1.text] 9)).grownBy w4 (some b) := hgrow4
      have hrd4 : Reads R g (s2.next.want 1).2 w4 := (HR3.out.alloc _).row' hgr (by omega)
      have hgoal : ParRow R g s.left.length (pParams s) (.slice (some ⟨b2, 0, none⟩) (ps.length + 1) cap2) w w4 := by
        refine ⟨went_row ((HWT.out.trans HWB.out).trans (went_none (grown_alloc _ _))) hgr hb0, k, b2, cap2, ps ++ [(s2.next.want 1).1.text], (s2.next.want 1).2, by simp, by omega, hRw0, ?_, hrd4, by omega, by simp; omega, by simp, HGE.out⟩
        rw [List.map_append, List.length_append]
        exact hown4
      have hlen4 : lenOf w4 R = (s2.next.want 1).2.left.length := lenOf_reads hrd4
      have HGOAL := Lib.hid hgoal; have HL4 := Lib.hid hlen4
      clear hgoal hlen4 hrd4 hgr hgrow4 hown4 hat4 hb2
      go_wp2_with (fail)
      go_roundw
      case rel => exact HGOAL.out
      case measure => rw [HL4.out, lenOf_reads HRD.out]; omega
end Go.Proofs.YtaomlahphlemdaaGreatDoor

namespace Go.Proofs.YtaomlahphlemdaaGreatDoor
open Go.ChangeShapes Go.WideShapes Go.ChangeAt Go.RowKit
set_option linter.unusedVariables false

/-- A function. -/
structure Fn where
  name : List UInt8
  params : List (List UInt8)
  body : List Sm
  line : Int
  col : Int
def cellsF (name : List UInt8) (pv bv : Value) (line col : Int) : Array Value := #[.string ⟨name.toArray⟩, pv, bv, .int .i64 line, .int .i64 col]
def zeroF : Array Value := #[.string ⟨#[]⟩, .slice none 0 0, .slice none 0 0, .int .i64 0, .int .i64 0]
def Fn.At (f : Fn) (w : World) (S : Nat → Prop) (cs : Array Value) : Prop := ∃ pv bv, cs = cellsF f.name pv bv f.line f.col ∧ StrsAt w S f.params pv ∧ BodyAt w S f.body bv
theorem Fn.At.keep {w w' : World} {S S' : Nat → Prop} (hz : w.heap.size ≤ w'.heap.size) (hS : ∀ g, S g → g < w.heap.size → S' g) (hk : ∀ g, S g → g < w.heap.size → ∀ o, w'.cell? ⟨g, o, none⟩ = w.cell? ⟨g, o, none⟩) {f : Fn} {cs : Array Value} (h : f.At w S cs) : f.At w' S' cs := by
  obtain ⟨pv, bv, rfl, h1, h2⟩ := h
  exact ⟨pv, bv, rfl, h1.keep hz hS hk, h2.keep hS hk⟩
theorem Fn.At.cells {w : World} {S : Nat → Prop} {f : Fn} {cs : Array Value} (h : f.At w S cs) : ∃ n a b c d e g l k, cs = cellsF n (.slice a b c) (.slice d e g) l k := by
  obtain ⟨pv, bv, rfl, h1, h2⟩ := h
  obtain ⟨a, b, c, rfl⟩ := h1.slice
  obtain ⟨d, e, g, rfl⟩ := h2.slice
  exact ⟨_, _, _, _, _, _, _, _, _, rfl⟩
def fnHead (s : St) : St := (letWant s).2.must [40]
def pFunc (blk : St → List Sm × St) (s : St) : Fn × St :=
  if (fnHead s).sees [[41]] then (⟨(letWant s).1.text, [], (blk ((fnHead s).must [41])).1, (letWant s).1.line, (letWant s).1.col⟩, (blk ((fnHead s).must [41])).2)
  else (⟨(letWant s).1.text, (pParams (fnHead s)).1, (blk ((pParams (fnHead s)).2.must [41])).1, (letWant s).1.line, (letWant s).1.col⟩, (blk ((pParams (fnHead s)).2.must [41])).2)
theorem fnHead_neat (s : St) : Neat s.next (fnHead s) := (neat_want s.next 1).trans (neat_must _ _)
theorem func_neat {blk : St → List Sm × St} (hb : NeatL blk) (s : St) : Neat s.next (pFunc blk s).2 := by
  unfold pFunc; split
  · exact ((fnHead_neat s).trans (neat_must _ _)).trans (hb _)
  · exact (((fnHead_neat s).trans (params_neat _)).trans (neat_must _ _)).trans (hb _)
def FnPost (R g : Nat) (p : Fn × St) (w : World) (e : Ending) (w' : World) : Prop := ∃ cs, e = .returned (.agg cs) ∧ p.1.At w' (w.heap.size ≤ ·) cs ∧ Went R w w' ∧ Reads R g p.2 w'
theorem fn_end {R g r b : Nat} {S : Nat → Prop} {p : Fn × St} {cs : Array Value} {w w2 w' : World} (hs : Sets2 r b w2 w') (hat : p.1.At w2 S cs) (hS : ∀ q, S q → w.heap.size ≤ q ∧ q ≠ r ∧ q ≠ b) (hr : w.heap.size ≤ r) (hb : w.heap.size ≤ b) (hR : R < r) (hRb : R < b) (hw : Went R w w2) (hrd : Reads R g p.2 w2) : FnPost R g p w (.returned (.agg cs)) w' :=
  ⟨cs, rfl, hat.keep (by rw [hs.size]; exact Nat.le_refl _) (fun q hq _ => (hS q hq).1) (fun q hq _ o => World.cell?_of_block (hs.keep q (hS q hq).2.1 (hS q hq).2.2)),
    ⟨hs.os.trans hw.os, hs.tape.trans hw.tape, hs.output.trans hw.output, by rw [hs.size]; exact hw.size, fun k hk hne => (hs.keep k (by omega) (by omega)).trans (hw.block k hk hne)⟩, hrd.sets2 hR hRb hs⟩

set_option maxHeartbeats 2000000 in
set_option maxRecDepth 100000 in
theorem function_any {R g n : Nat} {blk : St → List Sm × St} (hb : BlockOk R g n 93 blk) (s : St) (w : World) (hgd : Good s) (hl : s.left.length ≤ n) (hd : s.deep + 2 * s.left.length + 1 ≤ 300000) (h : Reads R g s w) :
    Calls Tryz.prog 61 #[.pointer (some ⟨R, 0, none⟩)] w (FnPost R g (pFunc blk s) w) := by
  have HB := Lib.hid hb; have HR := Lib.hid h; have HGD := Lib.hid hgd
  have hRw := h.size
  have hn0 := neat_next s
  have hn1 := fnHead_neat s
  have hn2 := params_neat (fnHead s)
  have hn3 := neat_must (fnHead s) [41]
  have hn4 := neat_must (pParams (fnHead s)).2 [41]
  have HN1 := Lib.hid ((hn0.trans hn1).trans hn3); have HN2 := Lib.hid (((hn0.trans hn1).trans hn2).trans hn4)
  clear hb h hgd hn0 hn1 hn2 hn3 hn4
  go_enter Tryz.func61, Tryz.ntmps61
  go_wp2_with (fail)
  refine (take_any R g s _ (HR.out.alloc _)).mono ?_
  rintro e w0 ⟨rfl, hw0, hr0⟩
  have HW0 := Lib.hid hw0; have HR0 := Lib.hid hr0
  clear hw0 hr0
  go_wp2_with (fail)
  refine (want_any R g s.next 1 _ HR0.out).mono ?_
  rintro e w1 ⟨rfl, hw1, hr1⟩
  have hw1' := HW0.out.trans hw1
  have hz1 := hw1'.size
  simp at hz1
  have HL := Lib.hid (laid5_of (ct := tokCells (letWant s).1) (cs := cellsF (letWant s).1.text (.slice none 0 0) (.slice none 0 0) (letWant s).1.line (letWant s).1.col) hw1' hRw)
  have HR1 := Lib.hid hr1
  clear hw1 hr1 hw1'
  unfold tokAgg
  go_wp2_with (fail)
  refine (must_any R g (letWant s).2 [40] _ ((HR1.out.alloc _).alloc _)).mono ?_
  rintro e w2 ⟨rfl, hw2, hr2⟩
  have hz2 := hw2.size
  simp at hz2
  have HL2 := Lib.hid (HL.out.went' hw2 hRw (by omega)); have HR2 := Lib.hid hr2
  clear hw2 hr2
  go_wp2_with (fail)
  refine (sees_any R g (fnHead s) _ 1 [[41]] (by decide) _ (HR2.out.alloc _) (by exact marks_of (alloc_at _ _ _ rfl)) (by simp)).mono ?_
  rintro e w3 ⟨rfl, hg3⟩
  have hg3' := grown_trans (grown_alloc _ _) hg3
  have hz3 := hg3'.size
  have hL3 := HL2.out.went' (went_none hg3') hRw (by omega)
  obtain ⟨⟨x0, x1, x2, x3, x4⟩, f0, f1, f2, f3, f4⟩ := five' hL3.blk
  have HL3 := Lib.hid hL3; have HR3 := Lib.hid (HR2.out.more hg3')
  have hlt3 : w1.heap.size + 1 < w3.heap.size := by omega
  clear hL3 hg3 hg3'
  cases hs : (fnHead s).sees [[41]]
  · have HV := Lib.hid (show pFunc blk s = (⟨(letWant s).1.text, (pParams (fnHead s)).1, (blk ((pParams (fnHead s)).2.must [41])).1, (letWant s).1.line, (letWant s).1.col⟩, (blk ((pParams (fnHead s)).2.must [41])).2) by unfold pFunc; rw [if_neg (by rw [hs]; decide)])
    clear hs
    go_wp2_with (fail)
    refine (params_any R g (fnHead s) _ HR3.out).mono ?_
    rintro e w4 ⟨v, rfl, hst, hw4, hr4⟩
    obtain ⟨va, vk, vc, rfl⟩ := hst.slice
    have hz4 := hw4.size
    have hL4 := HL3.out.went' hw4 hRw (by omega)
    clear x0 x1 x2 x3 x4 f0 f1 f2 f3 f4
    obtain ⟨⟨x0, x1, x2, x3, x4⟩, f0, f1, f2, f3, f4⟩ := five' hL4.blk
    have HL4 := Lib.hid hL4; have HR4 := Lib.hid hr4; have HST := Lib.hid hst
    have hlt4 : w1.heap.size + 1 < w4.heap.size := by omega
    clear hL4 hw4 hr4 hst
    go_wp2_with (fail)
    refine (must_any R g (pParams (fnHead s)).2 [41] _ (HR4.out.set _ _ (by omega))).mono ?_
    rintro e w5 ⟨rfl, hw5, hr5⟩
    have hz5 := hw5.size
    simp at hz5
    have hL5 := (HL4.out.put 1 (.slice va vk vc) (by omega) (by omega)).went' hw5 hRw (by omega)
    have HST5 := Lib.hid (HST.out.keep (w' := w5) (S' := fun q => w1.heap.size + 1 < q) (by omega) (fun q hq hlt => by have h9 : w3.heap.size ≤ q := hq; omega) (fun q hq hlt o => by
      have h9 : w3.heap.size ≤ q := hq
      rw [World.cell?_of_block (hw5.block q (by simp; omega) (by simp; omega)), World.cell?_of_block (Below.heap_setCell _ _ _ _ (by show q ≠ w1.heap.size + 1; omega))]))
    have HL5 := Lib.hid hL5; have HR5 := Lib.hid hr5
    clear hL5 hw5 hr5 x0 x1 x2 x3 x4 f0 f1 f2 f3 f4
    go_wp2_with (fail)
    refine (HB.out _ _ (HN2.out.good HGD.out) (by have := HN2.out.fine.2; omega) (by have h1 := HN2.out.fine.1; have h2 := HN2.out.fine.2; omega) HR5.out).mono ?_
    rintro e w6 ⟨v, rfl, hbody, hw6, hr6⟩
    obtain ⟨ba, bk, bc, rfl⟩ := hbody.slice
    have hz6 := hw6.size
    have hL6 := HL5.out.went' hw6 hRw (by omega)
    have HAT := Lib.hid (show (⟨(letWant s).1.text, (pParams (fnHead s)).1, (blk ((pParams (fnHead s)).2.must [41])).1, (letWant s).1.line, (letWant s).1.col⟩ : Fn).At w6 (fun q => w1.heap.size + 1 < q) (cellsF (letWant s).1.text (.slice va vk vc) (.slice ba bk bc) (letWant s).1.line (letWant s).1.col) from
      ⟨_, _, rfl, HST5.out.keep (by omega) (fun _ h _ => h) (fun q hq hlt o => World.cell?_of_block (hw6.block q hlt (by simp; omega))), hbody.keep (fun q hq _ => by have h9 : w5.heap.size ≤ q := hq; omega) (fun _ _ _ _ => rfl)⟩)
    have hbk6 : w6.heap[w1.heap.size + 1]? = some (.cells (cellsF (letWant s).1.text (.slice va vk vc) (.slice none 0 0) (letWant s).1.line (letWant s).1.col) 58 (0, 0)) := hL6.blk
    obtain ⟨⟨x0, x1, x2, x3, x4⟩, f0, f1, f2, f3, f4⟩ := five' hbk6
    obtain ⟨⟨z0, z1, z2, z3, z4⟩, h0, h1, h2, h3, h4⟩ := five' hL6.res
    have HL6 := Lib.hid hL6; have HR6 := Lib.hid hr6
    have hlt6 : w1.heap.size + 1 < w6.heap.size := by omega
    have hlt7 : w.heap.size < w6.heap.size := by omega
    clear hL6 hw6 hr6 hbk6 hbody
    go_wp2_with (fail)
    refine bodyPost_ret (v := .agg (cellsF (letWant s).1.text (.slice va vk vc) (.slice ba bk bc) (letWant s).1.line (letWant s).1.col)) (by simp [results, Tryz.results61, go_sem, cellsF, z0, z1, z2, z3, z4]) rfl ?_
    rw [HV.out]
    refine fn_end (r := w.heap.size) (b := w1.heap.size + 1) (S := fun q => w1.heap.size + 1 < q) ?_ HAT.out (fun q hq => ⟨by omega, by omega, by omega⟩) (Nat.le_refl _) (by omega) hRw (by omega) HL6.out.went HR6.out
    repeat (first | with_reducible (refine Sets2.set ?_ _ _) | with_reducible (refine Sets2.set' ?_ _ _) | with_reducible (exact Sets2.refl _ _ _))
  · have HV := Lib.hid (show pFunc blk s = (⟨(letWant s).1.text, [], (blk ((fnHead s).must [41])).1, (letWant s).1.line, (letWant s).1.col⟩, (blk ((fnHead s).must [41])).2) by unfold pFunc; rw [if_pos hs])
    clear hs
    go_wp2_with (fail)
    refine (must_any R g (fnHead s) [41] _ HR3.out).mono ?_
    rintro e w5 ⟨rfl, hw5, hr5⟩
    have hz5 := hw5.size
    have HL5 := Lib.hid (HL3.out.went' hw5 hRw (by omega)); have HR5 := Lib.hid hr5
    clear hw5 hr5 x0 x1 x2 x3 x4 f0 f1 f2 f3 f4
    go_wp2_with (fail)
    refine (HB.out _ _ (HN1.out.good HGD.out) (by have := HN1.out.fine.2; omega) (by have h1 := HN1.out.fine.1; have h2 := HN1.out.fine.2; omega) HR5.out).mono ?_
    rintro e w6 ⟨v, rfl, hbody, hw6, hr6⟩
    obtain ⟨ba, bk, bc, rfl⟩ := hbody.slice
    have hz6 := hw6.size
    have hL6 := HL5.out.went' hw6 hRw (by omega)
    have HAT := Lib.hid (show (⟨(letWant s).1.text, [], (blk ((fnHead s).must [41])).1, (letWant s).1.line, (letWant s).1.col⟩ : Fn).At w6 (fun q => w1.heap.size + 1 < q) (cellsF (letWant s).1.text (.slice none 0 0) (.slice ba bk bc) (letWant s).1.line (letWant s).1.col) from
      ⟨_, _, rfl, .inl ⟨rfl, _, _, rfl⟩, hbody.keep (fun q hq _ => by have h9 : w5.heap.size ≤ q := hq; omega) (fun _ _ _ _ => rfl)⟩)
    obtain ⟨⟨x0, x1, x2, x3, x4⟩, f0, f1, f2, f3, f4⟩ := five' hL6.blk
    obtain ⟨⟨z0, z1, z2, z3, z4⟩, h0, h1, h2, h3, h4⟩ := five' hL6.res
    have HL6 := Lib.hid hL6; have HR6 := Lib.hid hr6
    have hlt6 : w1.heap.size + 1 < w6.heap.size := by omega
    have hlt7 : w.heap.size < w6.heap.size := by omega
    clear hL6 hw6 hr6 hbody
    go_wp2_with (fail)
    refine bodyPost_ret (v := .agg (cellsF (letWant s).1.text (.slice none 0 0) (.slice ba bk bc) (letWant s).1.line (letWant s).1.col)) (by simp [results, Tryz.results61, go_sem, cellsF, z0, z1, z2, z3, z4]) rfl ?_
    rw [HV.out]
    refine fn_end (r := w.heap.size) (b := w1.heap.size + 1) (S := fun q => w1.heap.size + 1 < q) ?_ HAT.out (fun q hq => ⟨by omega, by omega, by omega⟩) (Nat.le_refl _) (by omega) hRw (by omega) HL6.out.went HR6.out
    repeat (first | with_reducible (refine Sets2.set ?_ _ _) | with_reducible (refine Sets2.set' ?_ _ _) | with_reducible (exact Sets2.refl _ _ _))
end Go.Proofs.YtaomlahphlemdaaGreatDoor
