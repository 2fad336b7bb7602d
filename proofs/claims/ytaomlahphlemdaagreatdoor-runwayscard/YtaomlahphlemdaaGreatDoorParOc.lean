/-
  The parser: unary at a bracket, at true and at false.
-/
import Derived.Test.YtaomlahphlemdaaGreatDoorParN
namespace Go.Proofs.YtaomlahphlemdaaGreatDoor
open Go.ChangeShapes Go.WideShapes Go.ChangeAt Go.RowKit
set_option linter.unusedVariables false

theorem bool_1 (w : World) : Calls Tryz.prog 20 #[.bool true] w fun e w' => e = .returned (.int .i64 1) ∧ w' = w := by
  go_enter Tryz.func20, Tryz.ntmps20
  go_wp2
  go_ret
  exact ⟨rfl, rfl⟩
theorem bool_0 (w : World) : Calls Tryz.prog 20 #[.bool false] w fun e w' => e = .returned (.int .i64 0) ∧ w' = w := by
  go_enter Tryz.func20, Tryz.ntmps20
  go_wp2
  go_ret
  exact ⟨rfl, rfl⟩

set_option maxHeartbeats 2000000 in
set_option maxRecDepth 100000 in
theorem unary_paren {R g n : Nat} {u : Par} (hp : ExprOk R g n (pAndOf u)) (s : St) (w : World) (hl : s.left.length ≤ n + 1) (hd : s.deep + 2 * s.left.length ≤ 300000) (h : Reads R g s w) (kd nm ln cl : Int) (hnow : s.now = ⟨kd, [40], nm, ln, cl⟩)  :
    Calls Tryz.prog 147 #[.pointer (some ⟨R, 0, none⟩)] w (ExPost R g (unaryStep u s) w) := by
  have HV := Lib.hid (show unaryStep u s = ((pExprOf u s.next).1, (pExprOf u s.next).2.must [41]) by unfold unaryStep; rw [hnow]; rfl)
  have hnm := now_more (n := n) h (fun hk => by have := (now_ok h).1 hk; rw [hnow] at this; cases this)
  have HP := Lib.hid hp
  clear hp
  have HR := Lib.hid h; have HNOW := Lib.hid hnow
  have hRw := h.size
  clear h hnow
  go_enter Tryz.func147, Tryz.ntmps147
  go_wp2_with (fail)
  refine (now_any R g s _ (HR.out.alloc _)).mono ?_
  rintro e w1 ⟨rfl, hg1⟩
  rw [HNOW.out]
  have hL0 := laid2_of (t := ⟨kd, [40], nm, ln, cl⟩) (R := R) hg1 hRw
  have hz1 := hg1.size
  simp at hz1
  have HRW := Lib.hid (((HR.out.alloc _).more hg1).alloc (.cells (tokCells ⟨kd, [40], nm, ln, cl⟩) 132))
  have HL0 := Lib.hid hL0
  clear hg1 hL0
  unfold tokAgg
  go_wp2_with (fail)
  generalize hW : w1.alloc (.cells #[.int .i64 kd, .string ⟨#[40]⟩, .int .i64 nm, .int .i64 ln, .int .i64 cl] 132) = W
  have hL : Laid2 R w.heap.size w1.heap.size (tokCells ⟨kd, [40], nm, ln, cl⟩) w W := by rw [← hW]; exact HL0.out
  have hrW : Reads R g s W := by rw [← hW]; exact HRW.out
  have hsW : W.heap.size = w1.heap.size + 1 := by rw [← hW]; simp
  clear hW HL0 HRW
  have HL := Lib.hid hL
  refine (take_any R g s _ hrW).mono ?_
  rintro e' w2 ⟨rfl, hw2, hr2⟩
  have hz2 := hw2.size
  have hL2 := HL.out.went' hw2 hRw (by omega)
  have HL2 := Lib.hid hL2; have HR2 := Lib.hid hr2
  clear hL hrW hL2 hw2 hr2
  unfold tokAgg
  go_wp2_with (fail)
  refine (HP.out s.next _ (by omega) (by omega) HR2.out).mono ?_
  rintro e' w3 ⟨cs, rfl, hat, hw3, hr3⟩
  obtain ⟨k6, l6, c6, n6, m6, o6, a6, b6, d6, rfl⟩ := hat.cells
  have hz3 := hw3.size
  have hL3 := HL2.out.went' hw3 hRw (by omega)
  have HL3 := Lib.hid hL3; have HR3 := Lib.hid hr3; have HAT := Lib.hid hat
  clear hL3 hw3 hr3 hat
  unfold cells7
  go_wp2_with (fail)
  refine (must_any R g (pExprOf u s.next).2 [41] _ (HR3.out.alloc _)).mono ?_
  rintro e' w4 ⟨rfl, hw4, hr4⟩
  have hz4 := hw4.size
  simp at hz4
  have hL4 := (HL3.out.went' (went_none (grown_alloc _ _)) hRw (by omega)).went' hw4 hRw (by omega)
  have hblk : w4.heap[w3.heap.size]? = some (.cells (cells7 k6 l6 c6 n6 m6 o6 (.slice a6 b6 d6)) 47 (0, 0)) := hw4.keep (alloc_at _ _ _ rfl) (by omega)
  have hat4 : (pExprOf u s.next).1.At w4 (fun q => w.heap.size < q) (cells7 k6 l6 c6 n6 m6 o6 (.slice a6 b6 d6)) := by
    refine Ex.At.keep (fun q hq hlt => by have : w2.heap.size ≤ q := hq; omega) (fun q hq hlt o => ?_) _ _ HAT.out
    have h9 : w2.heap.size ≤ q := hq
    rw [World.cell?_of_block (hw4.block q (by simp; omega) (by simp; omega)), World.cell?_of_block (Below.heap_alloc _ _ _ hlt)]
  obtain ⟨x0, x1, x2, x3, x4, x5, x6⟩ := (seven hblk).1
  obtain ⟨⟨z0, z1, z2, z3, z4, z5, z6⟩, f0, f1, f2, f3, f4, f5, f6⟩ := seven hL4.res
  have HL4 := Lib.hid hL4; have HR4 := Lib.hid hr4; have HAT4 := Lib.hid hat4
  have hlt9 : w.heap.size < w4.heap.size := by omega
  clear hL4 hw4 hr4 hblk hat4
  go_wp2_with (fail)
  refine bodyPost_ret (v := .agg (cells7 k6 l6 c6 n6 m6 o6 (.slice a6 b6 d6))) (by simp [results, Tryz.results147, go_sem, cells7, z0, z1, z2, z3, z4, z5, z6]) rfl ?_
  rw [HV.out]
  refine ex_end (r := w.heap.size) ?_ HAT4.out (fun q hq => by have : w.heap.size < q := hq; omega) (Nat.le_refl _) hRw HL4.out.went HR4.out
  repeat (first | with_reducible (refine Sets.set ?_ _ _) | with_reducible (refine Sets.drew ?_) | with_reducible (exact Sets.refl _ _))

set_option maxHeartbeats 2000000 in
set_option maxRecDepth 100000 in
theorem unary_true {R g n : Nat} {u : Par}  (s : St) (w : World) (hl : s.left.length ≤ n + 1) (hd : s.deep + 2 * s.left.length ≤ 300000) (h : Reads R g s w) (kd nm ln cl : Int) (hnow : s.now = ⟨kd, [116, 114, 117, 101], nm, ln, cl⟩)  :
    Calls Tryz.prog 147 #[.pointer (some ⟨R, 0, none⟩)] w (ExPost R g (unaryStep u s) w) := by
  have HV := Lib.hid (show unaryStep u s = (.mk 2 ln cl 1 [] 0 [], s.next) by unfold unaryStep; rw [hnow]; rfl)
  have HR := Lib.hid h; have HNOW := Lib.hid hnow
  have hRw := h.size
  clear h hnow
  go_enter Tryz.func147, Tryz.ntmps147
  go_wp2_with (fail)
  refine (now_any R g s _ (HR.out.alloc _)).mono ?_
  rintro e w1 ⟨rfl, hg1⟩
  rw [HNOW.out]
  have hL0 := laid2_of (t := ⟨kd, [116, 114, 117, 101], nm, ln, cl⟩) (R := R) hg1 hRw
  have hz1 := hg1.size
  simp at hz1
  have HRW := Lib.hid (((HR.out.alloc _).more hg1).alloc (.cells (tokCells ⟨kd, [116, 114, 117, 101], nm, ln, cl⟩) 132))
  have HL0 := Lib.hid hL0
  clear hg1 hL0
  unfold tokAgg
  go_wp2_with (fail)
  generalize hW : w1.alloc (.cells #[.int .i64 kd, .string ⟨#[116, 114, 117, 101]⟩, .int .i64 nm, .int .i64 ln, .int .i64 cl] 132) = W
  have hL : Laid2 R w.heap.size w1.heap.size (tokCells ⟨kd, [116, 114, 117, 101], nm, ln, cl⟩) w W := by rw [← hW]; exact HL0.out
  have hrW : Reads R g s W := by rw [← hW]; exact HRW.out
  have hsW : W.heap.size = w1.heap.size + 1 := by rw [← hW]; simp
  clear hW HL0 HRW
  have HL := Lib.hid hL
  refine (take_any R g s _ hrW).mono ?_
  rintro e' w2 ⟨rfl, hw2, hr2⟩
  have hz2 := hw2.size
  have hL2 := HL.out.went' hw2 hRw (by omega)
  obtain ⟨y0, y1, y2, y3, y4⟩ := five hL2.tok
  have HL2 := Lib.hid hL2; have HR2 := Lib.hid hr2
  clear hL hrW hL2 hw2 hr2
  unfold tokAgg
  go_wp2_with (fail)
  refine wp_region_still_tail 7 (by kernel_rfl) (by kernel_rfl) ?_
  simp only [List.take_succ_cons, List.take_zero, List.drop_succ_cons, List.drop_zero]
  repeat still_step
  still_call (bool_1 _)
  repeat still_step
  refine wpStill_nil ?_
  change wpList _ _ _ _ _ w2.drew
  have hgd : w2.grownBy w2.drew none := ⟨rfl, rfl, rfl, Nat.le_refl _, fun _ _ _ => rfl⟩
  have hL3 := HL2.out.went' (went_none hgd) hRw (by omega)
  have hr3 := HR2.out.more hgd
  generalize w2.drew = w3 at hL3 hr3 ⊢
  obtain ⟨⟨z0, z1, z2, z3, z4, z5, z6⟩, f0, f1, f2, f3, f4, f5, f6⟩ := seven hL3.res
  have HL3 := Lib.hid hL3; have HR3 := Lib.hid hr3
  clear hL3 hr3 y0 y1 y2 y3 y4 hgd
  go_wp2_with (fail)
  refine bodyPost_ret (v := .agg (cells7 2 ln cl 1 [] 0 (.slice none 0 0))) (by simp [results, Tryz.results147, go_sem, cells7, z0, z1, z2, z3, z4, z5, z6]) rfl ?_
  rw [HV.out]
  refine ex_end (r := w.heap.size) (S := (w.heap.size < ·)) ?_ (at_none 2 ln cl 1 [] 0 ⟨by decide, by decide⟩ in0 none 0) (fun q hq => by have : w.heap.size < q := hq; omega) (Nat.le_refl _) hRw HL3.out.went HR3.out
  repeat (first | with_reducible (refine Sets.set ?_ _ _) | with_reducible (refine Sets.drew ?_) | with_reducible (exact Sets.refl _ _))

set_option maxHeartbeats 2000000 in
set_option maxRecDepth 100000 in
theorem unary_false {R g n : Nat} {u : Par}  (s : St) (w : World) (hl : s.left.length ≤ n + 1) (hd : s.deep + 2 * s.left.length ≤ 300000) (h : Reads R g s w) (kd nm ln cl : Int) (hnow : s.now = ⟨kd, [102, 97, 108, 115, 101], nm, ln, cl⟩)  :
    Calls Tryz.prog 147 #[.pointer (some ⟨R, 0, none⟩)] w (ExPost R g (unaryStep u s) w) := by
  have HV := Lib.hid (show unaryStep u s = (.mk 2 ln cl 0 [] 0 [], s.next) by unfold unaryStep; rw [hnow]; rfl)
  have HR := Lib.hid h; have HNOW := Lib.hid hnow
  have hRw := h.size
  clear h hnow
  go_enter Tryz.func147, Tryz.ntmps147
  go_wp2_with (fail)
  refine (now_any R g s _ (HR.out.alloc _)).mono ?_
  rintro e w1 ⟨rfl, hg1⟩
  rw [HNOW.out]
  have hL0 := laid2_of (t := ⟨kd, [102, 97, 108, 115, 101], nm, ln, cl⟩) (R := R) hg1 hRw
  have hz1 := hg1.size
  simp at hz1
  have HRW := Lib.hid (((HR.out.alloc _).more hg1).alloc (.cells (tokCells ⟨kd, [102, 97, 108, 115, 101], nm, ln, cl⟩) 132))
  have HL0 := Lib.hid hL0
  clear hg1 hL0
  unfold tokAgg
  go_wp2_with (fail)
  generalize hW : w1.alloc (.cells #[.int .i64 kd, .string ⟨#[102, 97, 108, 115, 101]⟩, .int .i64 nm, .int .i64 ln, .int .i64 cl] 132) = W
  have hL : Laid2 R w.heap.size w1.heap.size (tokCells ⟨kd, [102, 97, 108, 115, 101], nm, ln, cl⟩) w W := by rw [← hW]; exact HL0.out
  have hrW : Reads R g s W := by rw [← hW]; exact HRW.out
  have hsW : W.heap.size = w1.heap.size + 1 := by rw [← hW]; simp
  clear hW HL0 HRW
  have HL := Lib.hid hL
  refine (take_any R g s _ hrW).mono ?_
  rintro e' w2 ⟨rfl, hw2, hr2⟩
  have hz2 := hw2.size
  have hL2 := HL.out.went' hw2 hRw (by omega)
  obtain ⟨y0, y1, y2, y3, y4⟩ := five hL2.tok
  have HL2 := Lib.hid hL2; have HR2 := Lib.hid hr2
  clear hL hrW hL2 hw2 hr2
  unfold tokAgg
  go_wp2_with (fail)
  refine wp_region_still_tail 7 (by kernel_rfl) (by kernel_rfl) ?_
  simp only [List.take_succ_cons, List.take_zero, List.drop_succ_cons, List.drop_zero]
  repeat still_step
  still_call (bool_0 _)
  repeat still_step
  refine wpStill_nil ?_
  change wpList _ _ _ _ _ w2.drew
  have hgd : w2.grownBy w2.drew none := ⟨rfl, rfl, rfl, Nat.le_refl _, fun _ _ _ => rfl⟩
  have hL3 := HL2.out.went' (went_none hgd) hRw (by omega)
  have hr3 := HR2.out.more hgd
  generalize w2.drew = w3 at hL3 hr3 ⊢
  obtain ⟨⟨z0, z1, z2, z3, z4, z5, z6⟩, f0, f1, f2, f3, f4, f5, f6⟩ := seven hL3.res
  have HL3 := Lib.hid hL3; have HR3 := Lib.hid hr3
  clear hL3 hr3 y0 y1 y2 y3 y4 hgd
  go_wp2_with (fail)
  refine bodyPost_ret (v := .agg (cells7 2 ln cl 0 [] 0 (.slice none 0 0))) (by simp [results, Tryz.results147, go_sem, cells7, z0, z1, z2, z3, z4, z5, z6]) rfl ?_
  rw [HV.out]
  refine ex_end (r := w.heap.size) (S := (w.heap.size < ·)) ?_ (at_none 2 ln cl 0 [] 0 ⟨by decide, by decide⟩ in0 none 0) (fun q hq => by have : w.heap.size < q := hq; omega) (Nat.le_refl _) hRw HL3.out.went HR3.out
  repeat (first | with_reducible (refine Sets.set ?_ _ _) | with_reducible (refine Sets.drew ?_) | with_reducible (exact Sets.refl _ _))
end Go.Proofs.YtaomlahphlemdaaGreatDoor
