/-
  The parser: unary at a number, a name, a bracket, and at what begins no expression.
-/
import Derived.Test.YtaomlahphlemdaaGreatDoorParN
namespace Go.Proofs.YtaomlahphlemdaaGreatDoor
open Go.ChangeShapes Go.WideShapes Go.ChangeAt Go.RowKit
set_option linter.unusedVariables false

set_option maxHeartbeats 2000000 in
set_option maxRecDepth 100000 in
theorem unary_num {R g n : Nat} {u : Par}  (s : St) (w : World) (hl : s.left.length ≤ n + 1) (hd : s.deep + 2 * s.left.length ≤ 300000) (h : Reads R g s w) (tx : List UInt8) (nm ln cl : Int) (hnow : s.now = ⟨2, tx, nm, ln, cl⟩) (h1 : tx ≠ [33]) (h2 : tx ≠ [45]) (h3 : tx ≠ [40]) (h4 : tx ≠ [116, 114, 117, 101]) (h5 : tx ≠ [102, 97, 108, 115, 101]) :
    Calls Tryz.prog 147 #[.pointer (some ⟨R, 0, none⟩)] w (ExPost R g (unaryStep u s) w) := by
  have HV := Lib.hid (show unaryStep u s = (.mk 1 ln cl nm [] 0 [], s.next) by unfold unaryStep; rw [hnow]; simp only [if_neg h1, if_neg h2, if_neg h3, if_neg h4, if_neg h5, if_pos])
  have hin := (now_ok h).2
  rw [hnow] at hin
  have HIN := Lib.hid (show InI64 nm from hin)
  have b1 : (tx == [33]) = false := by simpa using h1
  have b2 : (tx == [45]) = false := by simpa using h2
  have b3 : (tx == [40]) = false := by simpa using h3
  have b4 : (tx == [116, 114, 117, 101]) = false := by simpa using h4
  have b5 : (tx == [102, 97, 108, 115, 101]) = false := by simpa using h5
  clear hin h1 h2 h3 h4 h5
  have HR := Lib.hid h; have HNOW := Lib.hid hnow
  have hRw := h.size
  clear h hnow
  go_enter Tryz.func147, Tryz.ntmps147
  go_wp2_with (fail)
  refine (now_any R g s _ (HR.out.alloc _)).mono ?_
  rintro e w1 ⟨rfl, hg1⟩
  rw [HNOW.out]
  have hL0 := laid2_of (t := ⟨2, tx, nm, ln, cl⟩) (R := R) hg1 hRw
  have hz1 := hg1.size
  simp at hz1
  have HRW := Lib.hid (((HR.out.alloc _).more hg1).alloc (.cells (tokCells ⟨2, tx, nm, ln, cl⟩) 132))
  have HL0 := Lib.hid hL0
  clear hg1 hL0
  unfold tokAgg
  go_wp2_with (fail)
  generalize hW : w1.alloc (.cells #[.int .i64 2, .string ⟨tx.toArray⟩, .int .i64 nm, .int .i64 ln, .int .i64 cl] 132) = W
  have hL : Laid2 R w.heap.size w1.heap.size (tokCells ⟨2, tx, nm, ln, cl⟩) w W := by rw [← hW]; exact HL0.out
  have hrW : Reads R g s W := by rw [← hW]; exact HRW.out
  have hsW : W.heap.size = w1.heap.size + 1 := by rw [← hW]; simp
  clear hW HL0 HRW
  have HL := Lib.hid hL
  refine (take_any R g s _ hrW).mono ?_
  rintro e' w2 ⟨rfl, hw2, hr2⟩
  have hz2 := hw2.size
  have hL2 := HL.out.went' hw2 hRw (by omega)
  obtain ⟨y0, y1, y2, y3, y4⟩ := five hL2.tok
  obtain ⟨⟨z0, z1, z2, z3, z4, z5, z6⟩, f0, f1, f2, f3, f4, f5, f6⟩ := seven hL2.res
  have HL2 := Lib.hid hL2; have HR2 := Lib.hid hr2
  have hlt9 : w.heap.size < w2.heap.size := by omega
  clear hL hrW hL2 hw2 hr2
  unfold tokAgg
  go_wp2_with (fail)
  refine bodyPost_ret (v := .agg (cells7 1 ln cl nm [] 0 (.slice none 0 0))) (by simp [results, Tryz.results147, go_sem, cells7, z0, z1, z2, z3, z4, z5, z6]) rfl ?_
  rw [HV.out]
  refine ex_end (r := w.heap.size) (S := (w.heap.size < ·)) ?_ (at_none 1 ln cl nm [] 0 HIN.out in0 none 0) (fun q hq => by have : w.heap.size < q := hq; omega) (Nat.le_refl _) hRw HL2.out.went HR2.out
  repeat (first | with_reducible (refine Sets.set ?_ _ _) | with_reducible (refine Sets.drew ?_) | with_reducible (exact Sets.refl _ _))

set_option maxHeartbeats 2000000 in
set_option maxRecDepth 100000 in
theorem unary_none {R g n : Nat} {u : Par}  (s : St) (w : World) (hl : s.left.length ≤ n + 1) (hd : s.deep + 2 * s.left.length ≤ 300000) (h : Reads R g s w) (kd : Int) (tx : List UInt8) (nm ln cl : Int) (hnow : s.now = ⟨kd, tx, nm, ln, cl⟩) (h1 : tx ≠ [33]) (h2 : tx ≠ [45]) (h3 : tx ≠ [40]) (h4 : tx ≠ [116, 114, 117, 101]) (h5 : tx ≠ [102, 97, 108, 115, 101]) (h6 : kd ≠ 2) (h7 : kd ≠ 1) :
    Calls Tryz.prog 147 #[.pointer (some ⟨R, 0, none⟩)] w (ExPost R g (unaryStep u s) w) := by
  have HV := Lib.hid (show unaryStep u s = (noEx, s.refuse) by unfold unaryStep; rw [hnow]; simp only [if_neg h1, if_neg h2, if_neg h3, if_neg h4, if_neg h5, if_neg h6, if_neg h7])
  have b1 : (tx == [33]) = false := by simpa using h1
  have b2 : (tx == [45]) = false := by simpa using h2
  have b3 : (tx == [40]) = false := by simpa using h3
  have b4 : (tx == [116, 114, 117, 101]) = false := by simpa using h4
  have b5 : (tx == [102, 97, 108, 115, 101]) = false := by simpa using h5
  have b6 : (kd == 2) = false := by simpa using h6
  have b7 : (kd == 1) = false := by simpa using h7
  clear h1 h2 h3 h4 h5 h6 h7
  have HR := Lib.hid h; have HNOW := Lib.hid hnow
  have hRw := h.size
  clear h hnow
  go_enter Tryz.func147, Tryz.ntmps147
  go_wp2_with (fail)
  refine (now_any R g s _ (HR.out.alloc _)).mono ?_
  rintro e w1 ⟨rfl, hg1⟩
  rw [HNOW.out]
  have hL0 := laid2_of (t := ⟨kd, tx, nm, ln, cl⟩) (R := R) hg1 hRw
  have hz1 := hg1.size
  simp at hz1
  have HRW := Lib.hid (((HR.out.alloc _).more hg1).alloc (.cells (tokCells ⟨kd, tx, nm, ln, cl⟩) 132))
  have HL0 := Lib.hid hL0
  clear hg1 hL0
  unfold tokAgg
  go_wp2_with (fail)
  generalize hW : w1.alloc (.cells #[.int .i64 kd, .string ⟨tx.toArray⟩, .int .i64 nm, .int .i64 ln, .int .i64 cl] 132) = W
  have hL : Laid2 R w.heap.size w1.heap.size (tokCells ⟨kd, tx, nm, ln, cl⟩) w W := by rw [← hW]; exact HL0.out
  have hrW : Reads R g s W := by rw [← hW]; exact HRW.out
  have hsW : W.heap.size = w1.heap.size + 1 := by rw [← hW]; simp
  clear hW HL0 HRW
  have HL := Lib.hid hL
  refine (refuse_any R g s _ hrW).mono ?_
  rintro e' w2 ⟨rfl, hw2, hr2⟩
  have hz2 := hw2.size
  have hL2 := HL.out.went' hw2 hRw (by omega)
  obtain ⟨⟨z0, z1, z2, z3, z4, z5, z6⟩, f0, f1, f2, f3, f4, f5, f6⟩ := seven hL2.res
  have HL2 := Lib.hid hL2; have HR2 := Lib.hid hr2
  clear hL hrW hL2 hw2 hr2
  go_wp2_with (fail)
  refine bodyPost_ret (v := .agg (cells7 0 0 0 0 [] 0 (.slice none 0 0))) (by simp [results, Tryz.results147, go_sem, cells7, z0, z1, z2, z3, z4, z5, z6]) rfl ?_
  rw [HV.out]
  refine ex_end (r := w.heap.size) (S := (w.heap.size < ·)) ?_ (at_none 0 0 0 0 [] 0 in0 in0 none 0) (fun q hq => by have : w.heap.size < q := hq; omega) (Nat.le_refl _) hRw HL2.out.went HR2.out
  repeat (first | with_reducible (refine Sets.set ?_ _ _) | with_reducible (refine Sets.drew ?_) | with_reducible (exact Sets.refl _ _))

set_option maxHeartbeats 2000000 in
set_option maxRecDepth 100000 in
theorem unary_name {R g n : Nat} {u : Par} (hp : ExprOk R g n (pAndOf u)) (hf : Fine n (pExprOf u)) (s : St) (w : World) (hl : s.left.length ≤ n + 1) (hd : s.deep + 2 * s.left.length ≤ 300000) (h : Reads R g s w) (tx : List UInt8) (nm ln cl : Int) (hnow : s.now = ⟨1, tx, nm, ln, cl⟩) (h1 : tx ≠ [33]) (h2 : tx ≠ [45]) (h3 : tx ≠ [40]) (h4 : tx ≠ [116, 114, 117, 101]) (h5 : tx ≠ [102, 97, 108, 115, 101]) :
    Calls Tryz.prog 147 #[.pointer (some ⟨R, 0, none⟩)] w (ExPost R g (unaryStep u s) w) := by
  have HV := Lib.hid (show unaryStep u s = pNamed (pExprOf u) ⟨1, tx, nm, ln, cl⟩ s.next by unfold unaryStep; rw [hnow]; simp only [if_neg h1, if_neg h2, if_neg h3, if_neg h4, if_neg h5]; rfl)
  have hnm := now_more (n := n) h (by rw [hnow]; show (1 : Int) ≠ 0; decide)
  have HP := Lib.hid hp; have HF := Lib.hid hf
  have b1 : (tx == [33]) = false := by simpa using h1
  have b2 : (tx == [45]) = false := by simpa using h2
  have b3 : (tx == [40]) = false := by simpa using h3
  have b4 : (tx == [116, 114, 117, 101]) = false := by simpa using h4
  have b5 : (tx == [102, 97, 108, 115, 101]) = false := by simpa using h5
  clear hp hf h1 h2 h3 h4 h5
  have HR := Lib.hid h; have HNOW := Lib.hid hnow
  have hRw := h.size
  clear h hnow
  go_enter Tryz.func147, Tryz.ntmps147
  go_wp2_with (fail)
  refine (now_any R g s _ (HR.out.alloc _)).mono ?_
  rintro e w1 ⟨rfl, hg1⟩
  rw [HNOW.out]
  have hL0 := laid2_of (t := ⟨1, tx, nm, ln, cl⟩) (R := R) hg1 hRw
  have hz1 := hg1.size
  simp at hz1
  have HRW := Lib.hid (((HR.out.alloc _).more hg1).alloc (.cells (tokCells ⟨1, tx, nm, ln, cl⟩) 132))
  have HL0 := Lib.hid hL0
  clear hg1 hL0
  unfold tokAgg
  go_wp2_with (fail)
  generalize hW : w1.alloc (.cells #[.int .i64 1, .string ⟨tx.toArray⟩, .int .i64 nm, .int .i64 ln, .int .i64 cl] 132) = W
  have hL : Laid2 R w.heap.size w1.heap.size (tokCells ⟨1, tx, nm, ln, cl⟩) w W := by rw [← hW]; exact HL0.out
  have hrW : Reads R g s W := by rw [← hW]; exact HRW.out
  have hsW : W.heap.size = w1.heap.size + 1 := by rw [← hW]; simp
  clear hW HL0 HRW
  have HL := Lib.hid hL
  refine (take_any R g s _ hrW).mono ?_
  rintro e' w2 ⟨rfl, hw2, hr2⟩
  have hz2 := hw2.size
  have hL2 := HL.out.went' hw2 hRw (by omega)
  obtain ⟨y0, y1, y2, y3, y4⟩ := five hL2.tok
  have HL2 := Lib.hid hL2; have HR2 := Lib.hid hr2
  clear hL hrW hL2 hw2 hr2
  unfold tokAgg
  go_wp2_with (fail)
  refine (named_any HP.out HF.out ⟨1, tx, nm, ln, cl⟩ s.next _ (by omega) (by omega) HR2.out).mono ?_
  rintro e' w3 ⟨cs, rfl, hat, hw3, hr3⟩
  obtain ⟨k6, l6, c6, n6, m6, o6, a6, b6, d6, rfl⟩ := hat.cells
  have hz3 := hw3.size
  have hL3 := HL2.out.went' hw3 hRw (by omega)
  obtain ⟨⟨z0, z1, z2, z3, z4, z5, z6⟩, f0, f1, f2, f3, f4, f5, f6⟩ := seven hL3.res
  have HL3 := Lib.hid hL3; have HR3 := Lib.hid hr3; have HAT := Lib.hid hat
  clear hL3 hw3 hr3 hat
  unfold cells7
  go_wp2_with (fail)
  refine bodyPost_ret (v := .agg (cells7 k6 l6 c6 n6 m6 o6 (.slice a6 b6 d6))) (by simp [results, Tryz.results147, go_sem, cells7, z0, z1, z2, z3, z4, z5, z6]) rfl ?_
  rw [HV.out]
  refine ex_end (r := w.heap.size) ?_ HAT.out (fun q hq => by have : w2.heap.size ≤ q := hq; omega) (Nat.le_refl _) hRw HL3.out.went HR3.out
  repeat (first | with_reducible (refine Sets.set ?_ _ _) | with_reducible (refine Sets.drew ?_) | with_reducible (exact Sets.refl _ _))
end Go.Proofs.YtaomlahphlemdaaGreatDoor
