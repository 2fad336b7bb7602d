/-
  The parser: a statement, by its first token.
-/
import Derived.Test.YtgnnendcgbijnaaDoorParU
namespace Go.Proofs.YtgnnendcgbijnaaDoor
open Go.ChangeShapes Go.WideShapes Go.ChangeAt Go.RowKit
set_option linter.unusedVariables false

def letL : List UInt8 := [108, 101, 116]
def whileL : List UInt8 := [119, 104, 105, 108, 101]
def returnL : List UInt8 := [114, 101, 116, 117, 114, 110]
def pStmt (l c o a p : ParS) : ParS := fun s =>
  if s.now.text = letL then l s else if s.now.text = ifL then c s else if s.now.text = whileL then o s else if s.now.text = returnL then a s else p s
/-- What a function of the reader does at one reader. -/
def SmAt (R g f : Nat) (s : St) (p : Sm × St) : Prop := ∀ w : World, Reads R g s w → Calls Tryd.prog f #[.pointer (some ⟨R, 0, none⟩)] w (SmPost R g p w)

theorem stmt_case {R g : Nat} {p : Sm × St} {w w1 w2 : World} {cs : Array Value} (hg : (w.alloc (.cells zeroS 45)).grownBy w1 none) (hR : R < w.heap.size) (hw : Went R w1 w2) (hat : p.1.At w2 (w1.heap.size ≤ ·) cs) (hr : Reads R g p.2 w2) :
    w2.heap[w.heap.size]? = some (.cells zeroS 45 (0, 0)) ∧ ∀ wf, Sets w.heap.size w2 wf → SmPost R g p w (.returned (.agg cs)) wf := by
  have hz := hg.size
  simp at hz
  refine ⟨hw.keep ((went_none (R := R) hg).keep (alloc_at _ _ _ rfl) (by omega)) (by omega), fun wf hs => ?_⟩
  exact sm_end hs hat (fun q hq => by have h9 : w1.heap.size ≤ q := hq; omega) (Nat.le_refl _) hR ((went_none (grown_trans (grown_alloc _ _) hg)).trans hw) hr

set_option maxHeartbeats 1000000 in
set_option maxRecDepth 100000 in
theorem stmt_let {R g : Nat} {s : St} {p : Sm × St} (hp : SmAt R g 68 s p) (kd nm ln cl : Int)  (hnow : s.now = ⟨kd, [108, 101, 116], nm, ln, cl⟩)  : SmAt R g 58 s p := by
  intro w h
  have HP := Lib.hid hp; have HR := Lib.hid h; have HNOW := Lib.hid hnow
  have hRw := h.size
  skip
  clear hp h hnow
  go_enter Tryd.func58, Tryd.ntmps58
  go_wp2_with (fail)
  refine (now_any R g s _ (HR.out.alloc _)).mono ?_
  rintro e w1 ⟨rfl, hg1⟩
  rw [HNOW.out]
  have HG1 := Lib.hid hg1
  clear hg1
  unfold tokAgg
  go_wp2_with (fail)
  rw [field_text]
  simp only [Result.andThen]
  rw [Oper.upon_value]
  go_wp2_with (fail)
  refine (HP.out _ ((HR.out.alloc _).more HG1.out)).mono ?_
  rintro e w2 ⟨cs, rfl, hat, hw2, hr2⟩
  obtain ⟨hres, hend⟩ := stmt_case HG1.out hRw hw2 hat hr2
  obtain ⟨q1, q2, q3, q4, q5, q6, q7, q8, q9, q10, q11, q12, q13, rfl⟩ := hat.cells
  obtain ⟨⟨z0, z1, z2, z3, z4, z5, z6⟩, f0, f1, f2, f3, f4, f5, f6⟩ := seven hres
  have HE := Lib.hid hend
  clear hat hw2 hr2 hres hend
  unfold cellsS
  go_wp2_with (fail)
  refine bodyPost_ret (v := .agg (cellsS q1 q2 q3 q4 (.slice q5 q6 q7) (.slice q8 q9 q10) (.slice q11 q12 q13))) (by simp [results, Tryd.results58, go_sem, cellsS, z0, z1, z2, z3, z4, z5, z6]) rfl ?_
  refine HE.out _ ?_
  repeat (first | with_reducible (refine Sets.set ?_ _ _) | with_reducible (exact Sets.refl _ _))

set_option maxHeartbeats 1000000 in
set_option maxRecDepth 100000 in
theorem stmt_if {R g : Nat} {s : St} {p : Sm × St} (hp : SmAt R g 69 s p) (kd nm ln cl : Int)  (hnow : s.now = ⟨kd, [105, 102], nm, ln, cl⟩)  : SmAt R g 58 s p := by
  intro w h
  have HP := Lib.hid hp; have HR := Lib.hid h; have HNOW := Lib.hid hnow
  have hRw := h.size
  skip
  clear hp h hnow
  go_enter Tryd.func58, Tryd.ntmps58
  go_wp2_with (fail)
  refine (now_any R g s _ (HR.out.alloc _)).mono ?_
  rintro e w1 ⟨rfl, hg1⟩
  rw [HNOW.out]
  have HG1 := Lib.hid hg1
  clear hg1
  unfold tokAgg
  go_wp2_with (fail)
  rw [field_text]
  simp only [Result.andThen]
  rw [Oper.upon_value]
  go_wp2_with (fail)
  refine (HP.out _ ((HR.out.alloc _).more HG1.out)).mono ?_
  rintro e w2 ⟨cs, rfl, hat, hw2, hr2⟩
  obtain ⟨hres, hend⟩ := stmt_case HG1.out hRw hw2 hat hr2
  obtain ⟨q1, q2, q3, q4, q5, q6, q7, q8, q9, q10, q11, q12, q13, rfl⟩ := hat.cells
  obtain ⟨⟨z0, z1, z2, z3, z4, z5, z6⟩, f0, f1, f2, f3, f4, f5, f6⟩ := seven hres
  have HE := Lib.hid hend
  clear hat hw2 hr2 hres hend
  unfold cellsS
  go_wp2_with (fail)
  refine bodyPost_ret (v := .agg (cellsS q1 q2 q3 q4 (.slice q5 q6 q7) (.slice q8 q9 q10) (.slice q11 q12 q13))) (by simp [results, Tryd.results58, go_sem, cellsS, z0, z1, z2, z3, z4, z5, z6]) rfl ?_
  refine HE.out _ ?_
  repeat (first | with_reducible (refine Sets.set ?_ _ _) | with_reducible (exact Sets.refl _ _))

set_option maxHeartbeats 1000000 in
set_option maxRecDepth 100000 in
theorem stmt_while {R g : Nat} {s : St} {p : Sm × St} (hp : SmAt R g 70 s p) (kd nm ln cl : Int)  (hnow : s.now = ⟨kd, [119, 104, 105, 108, 101], nm, ln, cl⟩)  : SmAt R g 58 s p := by
  intro w h
  have HP := Lib.hid hp; have HR := Lib.hid h; have HNOW := Lib.hid hnow
  have hRw := h.size
  skip
  clear hp h hnow
  go_enter Tryd.func58, Tryd.ntmps58
  go_wp2_with (fail)
  refine (now_any R g s _ (HR.out.alloc _)).mono ?_
  rintro e w1 ⟨rfl, hg1⟩
  rw [HNOW.out]
  have HG1 := Lib.hid hg1
  clear hg1
  unfold tokAgg
  go_wp2_with (fail)
  rw [field_text]
  simp only [Result.andThen]
  rw [Oper.upon_value]
  go_wp2_with (fail)
  refine (HP.out _ ((HR.out.alloc _).more HG1.out)).mono ?_
  rintro e w2 ⟨cs, rfl, hat, hw2, hr2⟩
  obtain ⟨hres, hend⟩ := stmt_case HG1.out hRw hw2 hat hr2
  obtain ⟨q1, q2, q3, q4, q5, q6, q7, q8, q9, q10, q11, q12, q13, rfl⟩ := hat.cells
  obtain ⟨⟨z0, z1, z2, z3, z4, z5, z6⟩, f0, f1, f2, f3, f4, f5, f6⟩ := seven hres
  have HE := Lib.hid hend
  clear hat hw2 hr2 hres hend
  unfold cellsS
  go_wp2_with (fail)
  refine bodyPost_ret (v := .agg (cellsS q1 q2 q3 q4 (.slice q5 q6 q7) (.slice q8 q9 q10) (.slice q11 q12 q13))) (by simp [results, Tryd.results58, go_sem, cellsS, z0, z1, z2, z3, z4, z5, z6]) rfl ?_
  refine HE.out _ ?_
  repeat (first | with_reducible (refine Sets.set ?_ _ _) | with_reducible (exact Sets.refl _ _))

set_option maxHeartbeats 1000000 in
set_option maxRecDepth 100000 in
theorem stmt_return {R g : Nat} {s : St} {p : Sm × St} (hp : SmAt R g 71 s p) (kd nm ln cl : Int)  (hnow : s.now = ⟨kd, [114, 101, 116, 117, 114, 110], nm, ln, cl⟩)  : SmAt R g 58 s p := by
  intro w h
  have HP := Lib.hid hp; have HR := Lib.hid h; have HNOW := Lib.hid hnow
  have hRw := h.size
  skip
  clear hp h hnow
  go_enter Tryd.func58, Tryd.ntmps58
  go_wp2_with (fail)
  refine (now_any R g s _ (HR.out.alloc _)).mono ?_
  rintro e w1 ⟨rfl, hg1⟩
  rw [HNOW.out]
  have HG1 := Lib.hid hg1
  clear hg1
  unfold tokAgg
  go_wp2_with (fail)
  rw [field_text]
  simp only [Result.andThen]
  rw [Oper.upon_value]
  go_wp2_with (fail)
  refine (HP.out _ ((HR.out.alloc _).more HG1.out)).mono ?_
  rintro e w2 ⟨cs, rfl, hat, hw2, hr2⟩
  obtain ⟨hres, hend⟩ := stmt_case HG1.out hRw hw2 hat hr2
  obtain ⟨q1, q2, q3, q4, q5, q6, q7, q8, q9, q10, q11, q12, q13, rfl⟩ := hat.cells
  obtain ⟨⟨z0, z1, z2, z3, z4, z5, z6⟩, f0, f1, f2, f3, f4, f5, f6⟩ := seven hres
  have HE := Lib.hid hend
  clear hat hw2 hr2 hres hend
  unfold cellsS
  go_wp2_with (fail)
  refine bodyPost_ret (v := .agg (cellsS q1 q2 q3 q4 (.slice q5 q6 q7) (.slice q8 q9 q10) (.slice q11 q12 q13))) (by simp [results, Tryd.results58, go_sem, cellsS, z0, z1, z2, z3, z4, z5, z6]) rfl ?_
  refine HE.out _ ?_
  repeat (first | with_reducible (refine Sets.set ?_ _ _) | with_reducible (exact Sets.refl _ _))

set_option maxHeartbeats 1000000 in
set_option maxRecDepth 100000 in
theorem stmt_plain {R g : Nat} {s : St} {p : Sm × St} (hp : SmAt R g 72 s p) (kd nm ln cl : Int) (tx : List UInt8) (hnow : s.now = ⟨kd, tx, nm, ln, cl⟩) (h1 : tx ≠ [108, 101, 116]) (h2 : tx ≠ [105, 102]) (h3 : tx ≠ [119, 104, 105, 108, 101]) (h4 : tx ≠ [114, 101, 116, 117, 114, 110]) : SmAt R g 58 s p := by
  intro w h
  have HP := Lib.hid hp; have HR := Lib.hid h; have HNOW := Lib.hid hnow
  have hRw := h.size
  have b1 : (tx == [108, 101, 116]) = false := by simpa using h1
  have b2 : (tx == [105, 102]) = false := by simpa using h2
  have b3 : (tx == [119, 104, 105, 108, 101]) = false := by simpa using h3
  have b4 : (tx == [114, 101, 116, 117, 114, 110]) = false := by simpa using h4
  clear h1 h2 h3 h4
  clear hp h hnow
  go_enter Tryd.func58, Tryd.ntmps58
  go_wp2_with (fail)
  refine (now_any R g s _ (HR.out.alloc _)).mono ?_
  rintro e w1 ⟨rfl, hg1⟩
  rw [HNOW.out]
  have HG1 := Lib.hid hg1
  clear hg1
  unfold tokAgg
  go_wp2_with (fail)
  rw [field_text]
  simp only [Result.andThen]
  rw [Oper.upon_value]
  go_wp2_with (fail)
  refine (HP.out _ ((HR.out.alloc _).more HG1.out)).mono ?_
  rintro e w2 ⟨cs, rfl, hat, hw2, hr2⟩
  obtain ⟨hres, hend⟩ := stmt_case HG1.out hRw hw2 hat hr2
  obtain ⟨q1, q2, q3, q4, q5, q6, q7, q8, q9, q10, q11, q12, q13, rfl⟩ := hat.cells
  obtain ⟨⟨z0, z1, z2, z3, z4, z5, z6⟩, f0, f1, f2, f3, f4, f5, f6⟩ := seven hres
  have HE := Lib.hid hend
  clear hat hw2 hr2 hres hend
  unfold cellsS
  go_wp2_with (fail)
  refine bodyPost_ret (v := .agg (cellsS q1 q2 q3 q4 (.slice q5 q6 q7) (.slice q8 q9 q10) (.slice q11 q12 q13))) (by simp [results, Tryd.results58, go_sem, cellsS, z0, z1, z2, z3, z4, z5, z6]) rfl ?_
  refine HE.out _ ?_
  repeat (first | with_reducible (refine Sets.set ?_ _ _) | with_reducible (exact Sets.refl _ _))

theorem stmt_any {R g : Nat} {l c o a p : ParS} {s : St} (hl : SmAt R g 68 s (l s)) (hc : SmAt R g 69 s (c s)) (ho : SmAt R g 70 s (o s)) (ha : SmAt R g 71 s (a s)) (hp : SmAt R g 72 s (p s)) : SmAt R g 58 s (pStmt l c o a p s) := by
  unfold pStmt
  cases ht : s.now with
  | mk kd tx nm ln cl =>
    simp only
    by_cases h1 : tx = letL
    · rw [if_pos h1]; subst h1; exact stmt_let hl kd nm ln cl ht
    by_cases h2 : tx = ifL
    · rw [if_neg h1, if_pos h2]; subst h2; exact stmt_if hc kd nm ln cl ht
    by_cases h3 : tx = whileL
    · rw [if_neg h1, if_neg h2, if_pos h3]; subst h3; exact stmt_while ho kd nm ln cl ht
    by_cases h4 : tx = returnL
    · rw [if_neg h1, if_neg h2, if_neg h3, if_pos h4]; subst h4; exact stmt_return ha kd nm ln cl ht
    rw [if_neg h1, if_neg h2, if_neg h3, if_neg h4]
    exact stmt_plain hp kd nm ln cl tx ht h1 h2 h3 h4
end Go.Proofs.YtgnnendcgbijnaaDoor
