/-
  The parser: a function.
-/
import Derived.Test.YtgnnendcgbijnaaDoorParAB
namespace Go.Proofs.YtgnnendcgbijnaaDoor
open Go.ChangeShapes Go.WideShapes Go.ChangeAt Go.RowKit
set_option linter.unusedVariables false

/-- A function. -/
structure Fn where
  name : List UInt8
  params : List (List UInt8)
  body : List Sm
  line : Int
  col : Int
def cellsF (name : List UInt8) (pv bv : Value) (line col : Int) : Array Value := #[.string ⟨name.toArray⟩, pv, bv, .int .i64 line, .int .i64 col]
def zeroF : Array Value := #[.string ⟨#[]⟩, .slice none 0 0, .slice none 0 0, .int .i64 0, .int .i64 0]
def Fn.At (f : Fn) (w : World) (S : Nat → Prop) (cs : Array Value) : Prop := ∃ pv bv, cs = cellsF f.name pv bv f.line f.col ∧ StrsAt w S f.params pv ∧ BodyAt w S f.body bv
theorem Fn.At.keep {w w' : World} {S S' : Nat → Prop} (hz : w.heap.size ≤ w'.heap.size) (hS : ∀ g, S g → g < w.heap.size → S' g) (hk : ∀ g, S g → g < w.heap.size → ∀ o, w'.cell? ⟨g, o, none⟩ = w.cell? ⟨g, o, none⟩) {f : Fn} {cs : Array Value} (h : f.At w S cs) : f.At w' S' cs := by
  obtain ⟨pv, bv, rfl, h1, h2⟩ := h
  exact ⟨pv, bv, rfl, h1.keep hz hS hk, h2.keep hS hk⟩
theorem Fn.At.cells {w : World} {S : Nat → Prop} {f : Fn} {cs : Array Value} (h : f.At w S cs) : ∃ n a b c d e g l k, cs = cellsF n (.slice a b c) (.slice d e g) l k := by
  obtain ⟨pv, bv, rfl, h1, h2⟩ := h
  obtain ⟨a, b, c, rfl⟩ := h1.slice
  obtain ⟨d, e, g, rfl⟩ := h2.slice
  exact ⟨_, _, _, _, _, _, _, _, _, rfl⟩
def fnHead (s : St) : St := (letWant s).2.must [40]
def pFunc (blk : St → List Sm × St) (s : St) : Fn × St :=
  if (fnHead s).sees [[41]] then (⟨(letWant s).1.text, [], (blk ((fnHead s).must [41])).1, (letWant s).1.line, (letWant s).1.col⟩, (blk ((fnHead s).must [41])).2)
  else (⟨(letWant s).1.text, (pParams (fnHead s)).1, (blk ((pParams (fnHead s)).2.must [41])).1, (letWant s).1.line, (letWant s).1.col⟩, (blk ((pParams (fnHead s)).2.must [41])).2)
theorem fnHead_neat (s : St) : Neat s.next (fnHead s) := (neat_want s.next 1).trans (neat_must _ _)
theorem func_neat {blk : St → List Sm × St} (hb : NeatL blk) (s : St) : Neat s.next (pFunc blk s).2 := by
  unfold pFunc; split
  · exact ((fnHead_neat s).trans (neat_must _ _)).trans (hb _)
  · exact (((fnHead_neat s).trans (params_neat _)).trans (neat_must _ _)).trans (hb _)
def FnPost (R g : Nat) (p : Fn × St) (w : World) (e : Ending) (w' : World) : Prop := ∃ cs, e = .returned (.agg cs) ∧ p.1.At w' (w.heap.size ≤ ·) cs ∧ Went R w w' ∧ Reads R g p.2 w'
theorem fn_end {R g r b : Nat} {S : Nat → Prop} {p : Fn × St} {cs : Array Value} {w w2 w' : World} (hs : Sets2 r b w2 w') (hat : p.1.At w2 S cs) (hS : ∀ q, S q → w.heap.size ≤ q ∧ q ≠ r ∧ q ≠ b) (hr : w.heap.size ≤ r) (hb : w.heap.size ≤ b) (hR : R < r) (hRb : R < b) (hw : Went R w w2) (hrd : Reads R g p.2 w2) : FnPost R g p w (.returned (.agg cs)) w' :=
  ⟨cs, rfl, hat.keep (by rw [hs.size]; exact Nat.le_refl _) (fun q hq _ => (hS q hq).1) (fun q hq _ o => World.cell?_of_block (hs.keep q (hS q hq).2.1 (hS q hq).2.2)),
    ⟨hs.os.trans hw.os, hs.tape.trans hw.tape, hs.output.trans hw.output, by rw [hs.size]; exact hw.size, fun k hk hne => (hs.keep k (by omega) (by omega)).trans (hw.block k hk hne)⟩, hrd.sets2 hR hRb hs⟩

set_option maxHeartbeats 2000000 in
set_option maxRecDepth 100000 in
theorem function_any {R g n : Nat} {blk : St → List Sm × St} (hb : BlockOk R g n 45 blk) (s : St) (w : World) (hgd : Good s) (hl : s.left.length ≤ n) (hd : s.deep + 2 * s.left.length + 1 ≤ 300000) (h : Reads R g s w) :
    Calls Tryd.prog 20 #[.pointer (some ⟨R, 0, none⟩)] w (FnPost R g (pFunc blk s) w) := by
  have HB := Lib.hid hb; have HR := Lib.hid h; have HGD := Lib.hid hgd
  have hRw := h.size
  have hn0 := neat_next s
  have hn1 := fnHead_neat s
  have hn2 := params_neat (fnHead s)
  have hn3 := neat_must (fnHead s) [41]
  have hn4 := neat_must (pParams (fnHead s)).2 [41]
  have HN1 := Lib.hid ((hn0.trans hn1).trans hn3); have HN2 := Lib.hid (((hn0.trans hn1).trans hn2).trans hn4)
  clear hb h hgd hn0 hn1 hn2 hn3 hn4
  go_enter Tryd.func20, Tryd.ntmps20
  go_wp2_with (fail)
  refine (take_any R g s _ (HR.out.alloc _)).mono ?_
  rintro e w0 ⟨rfl, hw0, hr0⟩
  have HW0 := Lib.hid hw0; have HR0 := Lib.hid hr0
  clear hw0 hr0
  go_wp2_with (fail)
  refine (want_any R g s.next 1 _ HR0.out).mono ?_
  rintro e w1 ⟨rfl, hw1, hr1⟩
  have hw1' := HW0.out.trans hw1
  have hz1 := hw1'.size
  simp at hz1
  have HL := Lib.hid (laid5_of (ct := tokCells (letWant s).1) (cs := cellsF (letWant s).1.text (.slice none 0 0) (.slice none 0 0) (letWant s).1.line (letWant s).1.col) hw1' hRw)
  have HR1 := Lib.hid hr1
  clear hw1 hr1 hw1'
  unfold tokAgg
  go_wp2_with (fail)
  refine (must_any R g (letWant s).2 [40] _ ((HR1.out.alloc _).alloc _)).mono ?_
  rintro e w2 ⟨rfl, hw2, hr2⟩
  have hz2 := hw2.size
  simp at hz2
  have HL2 := Lib.hid (HL.out.went' hw2 hRw (by omega)); have HR2 := Lib.hid hr2
  clear hw2 hr2
  go_wp2_with (fail)
  refine (sees_any R g (fnHead s) _ 1 [[41]] (by decide) _ (HR2.out.alloc _) (by exact marks_of (alloc_at _ _ _ rfl)) (by simp)).mono ?_
  rintro e w3 ⟨rfl, hg3⟩
  have hg3' := grown_trans (grown_alloc _ _) hg3
  have hz3 := hg3'.size
  have hL3 := HL2.out.went' (went_none hg3') hRw (by omega)
  obtain ⟨⟨x0, x1, x2, x3, x4⟩, f0, f1, f2, f3, f4⟩ := five' hL3.blk
  have HL3 := Lib.hid hL3; have HR3 := Lib.hid (HR2.out.more hg3')
  have hlt3 : w1.heap.size + 1 < w3.heap.size := by omega
  clear hL3 hg3 hg3'
  cases hs : (fnHead s).sees [[41]]
  · have HV := Lib.hid (show pFunc blk s = (⟨(letWant s).1.text, (pParams (fnHead s)).1, (blk ((pParams (fnHead s)).2.must [41])).1, (letWant s).1.line, (letWant s).1.col⟩, (blk ((pParams (fnHead s)).2.must [41])).2) by unfold pFunc; rw [if_neg (by rw [hs]; decide)])
    clear hs
    go_wp2_with (fail)
    refine (params_any R g (fnHead s) _ HR3.out).mono ?_
    rintro e w4 ⟨v, rfl, hst, hw4, hr4⟩
    obtain ⟨va, vk, vc, rfl⟩ := hst.slice
    have hz4 := hw4.size
    have hL4 := HL3.out.went' hw4 hRw (by omega)
    clear x0 x1 x2 x3 x4 f0 f1 f2 f3 f4
    obtain ⟨⟨x0, x1, x2, x3, x4⟩, f0, f1, f2, f3, f4⟩ := five' hL4.blk
    have HL4 := Lib.hid hL4; have HR4 := Lib.hid hr4; have HST := Lib.hid hst
    have hlt4 : w1.heap.size + 1 < w4.heap.size := by omega
    clear hL4 hw4 hr4 hst
    go_wp2_with (fail)
    refine (must_any R g (pParams (fnHead s)).2 [41] _ (HR4.out.set _ _ (by omega))).mono ?_
    rintro e w5 ⟨rfl, hw5, hr5⟩
    have hz5 := hw5.size
    simp at hz5
    have hL5 := (HL4.out.put 1 (.slice va vk vc) (by omega) (by omega)).went' hw5 hRw (by omega)
    have HST5 := Lib.hid (HST.out.keep (w' := w5) (S' := fun q => w1.heap.size + 1 < q) (by omega) (fun q hq hlt => by have h9 : w3.heap.size ≤ q := hq; omega) (fun q hq hlt o => by
      have h9 : w3.heap.size ≤ q := hq
      rw [World.cell?_of_block (hw5.block q (by simp; omega) (by simp; omega)), World.cell?_of_block (Below.heap_setCell _ _ _ _ (by show q ≠ w1.heap.size + 1; omega))]))
    have HL5 := Lib.hid hL5; have HR5 := Lib.hid hr5
    clear hL5 hw5 hr5 x0 x1 x2 x3 x4 f0 f1 f2 f3 f4
    go_wp2_with (fail)
    refine (HB.out _ _ (HN2.out.good HGD.out) (by have := HN2.out.fine.2; omega) (by have h1 := HN2.out.fine.1; have h2 := HN2.out.fine.2; omega) HR5.out).mono ?_
    rintro e w6 ⟨v, rfl, hbody, hw6, hr6⟩
    obtain ⟨ba, bk, bc, rfl⟩ := hbody.slice
    have hz6 := hw6.size
    have hL6 := HL5.out.went' hw6 hRw (by omega)
    have HAT := Lib.hid (show (⟨(letWant s).1.text, (pParams (fnHead s)).1, (blk ((pParams (fnHead s)).2.must [41])).1, (letWant s).1.line, (letWant s).1.col⟩ : Fn).At w6 (fun q => w1.heap.size + 1 < q) (cellsF (letWant s).1.text (.slice va vk vc) (.slice ba bk bc) (letWant s).1.line (letWant s).1.col) from
      ⟨_, _, rfl, HST5.out.keep (by omega) (fun _ h _ => h) (fun q hq hlt o => World.cell?_of_block (hw6.block q hlt (by simp; omega))), hbody.keep (fun q hq _ => by have h9 : w5.heap.size ≤ q := hq; omega) (fun _ _ _ _ => rfl)⟩)
    have hbk6 : w6.heap[w1.heap.size + 1]? = some (.cells (cellsF (letWant s).1.text (.slice va vk vc) (.slice none 0 0) (letWant s).1.line (letWant s).1.col) 41 (0, 0)) := hL6.blk
    obtain ⟨⟨x0, x1, x2, x3, x4⟩, f0, f1, f2, f3, f4⟩ := five' hbk6
    obtain ⟨⟨z0, z1, z2, z3, z4⟩, h0, h1, h2, h3, h4⟩ := five' hL6.res
    have HL6 := Lib.hid hL6; have HR6 := Lib.hid hr6
    have hlt6 : w1.heap.size + 1 < w6.heap.size := by omega
    have hlt7 : w.heap.size < w6.heap.size := by omega
    clear hL6 hw6 hr6 hbk6 hbody
    go_wp2_with (fail)
    refine bodyPost_ret (v := .agg (cellsF (letWant s).1.text (.slice va vk vc) (.slice ba bk bc) (letWant s).1.line (letWant s).1.col)) (by simp [results, Tryd.results20, go_sem, cellsF, z0, z1, z2, z3, z4]) rfl ?_
    rw [HV.out]
    refine fn_end (r := w.heap.size) (b := w1.heap.size + 1) (S := fun q => w1.heap.size + 1 < q) ?_ HAT.out (fun q hq => ⟨by omega, by omega, by omega⟩) (Nat.le_refl _) (by omega) hRw (by omega) HL6.out.went HR6.out
    repeat (first | with_reducible (refine Sets2.set ?_ _ _) | with_reducible (refine Sets2.set' ?_ _ _) | with_reducible (exact Sets2.refl _ _ _))
  · have HV := Lib.hid (show pFunc blk s = (⟨(letWant s).1.text, [], (blk ((fnHead s).must [41])).1, (letWant s).1.line, (letWant s).1.col⟩, (blk ((fnHead s).must [41])).2) by unfold pFunc; rw [if_pos hs])
    clear hs
    go_wp2_with (fail)
    refine (must_any R g (fnHead s) [41] _ HR3.out).mono ?_
    rintro e w5 ⟨rfl, hw5, hr5⟩
    have hz5 := hw5.size
    have HL5 := Lib.hid (HL3.out.went' hw5 hRw (by omega)); have HR5 := Lib.hid hr5
    clear hw5 hr5 x0 x1 x2 x3 x4 f0 f1 f2 f3 f4
    go_wp2_with (fail)
    refine (HB.out _ _ (HN1.out.good HGD.out) (by have := HN1.out.fine.2; omega) (by have h1 := HN1.out.fine.1; have h2 := HN1.out.fine.2; omega) HR5.out).mono ?_
    rintro e w6 ⟨v, rfl, hbody, hw6, hr6⟩
    obtain ⟨ba, bk, bc, rfl⟩ := hbody.slice
    have hz6 := hw6.size
    have hL6 := HL5.out.went' hw6 hRw (by omega)
    have HAT := Lib.hid (show (⟨(letWant s).1.text, [], (blk ((fnHead s).must [41])).1, (letWant s).1.line, (letWant s).1.col⟩ : Fn).At w6 (fun q => w1.heap.size + 1 < q) (cellsF (letWant s).1.text (.slice none 0 0) (.slice ba bk bc) (letWant s).1.line (letWant s).1.col) from
      ⟨_, _, rfl, .inl ⟨rfl, _, _, rfl⟩, hbody.keep (fun q hq _ => by have h9 : w5.heap.size ≤ q := hq; omega) (fun _ _ _ _ => rfl)⟩)
    obtain ⟨⟨x0, x1, x2, x3, x4⟩, f0, f1, f2, f3, f4⟩ := five' hL6.blk
    obtain ⟨⟨z0, z1, z2, z3, z4⟩, h0, h1, h2, h3, h4⟩ := five' hL6.res
    have HL6 := Lib.hid hL6; have HR6 := Lib.hid hr6
    have hlt6 : w1.heap.size + 1 < w6.heap.size := by omega
    have hlt7 : w.heap.size < w6.heap.size := by omega
    clear hL6 hw6 hr6 hbody
    go_wp2_with (fail)
    refine bodyPost_ret (v := .agg (cellsF (letWant s).1.text (.slice none 0 0) (.slice ba bk bc) (letWant s).1.line (letWant s).1.col)) (by simp [results, Tryd.results20, go_sem, cellsF, z0, z1, z2, z3, z4]) rfl ?_
    rw [HV.out]
    refine fn_end (r := w.heap.size) (b := w1.heap.size + 1) (S := fun q => w1.heap.size + 1 < q) ?_ HAT.out (fun q hq => ⟨by omega, by omega, by omega⟩) (Nat.le_refl _) (by omega) hRw (by omega) HL6.out.went HR6.out
    repeat (first | with_reducible (refine Sets2.set ?_ _ _) | with_reducible (refine Sets2.set' ?_ _ _) | with_reducible (exact Sets2.refl _ _ _))
end Go.Proofs.YtgnnendcgbijnaaDoor
