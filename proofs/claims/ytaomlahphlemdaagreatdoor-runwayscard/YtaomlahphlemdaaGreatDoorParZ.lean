/-
  The parser: a statement that begins with an expression: a call.
-/
import Derived.Test.YtaomlahphlemdaaGreatDoorParX
import Derived.BigRegion
namespace Go.Proofs.YtaomlahphlemdaaGreatDoor
open Go.ChangeShapes Go.WideShapes Go.ChangeAt Go.RowKit
set_option linter.unusedVariables false

theorem grown_drewN (w : World) : w.grownBy w.drew none := ⟨rfl, rfl, rfl, Nat.le_refl _, fun _ _ _ => rfl⟩
theorem Reads.drew {R g : Nat} {s : St} {w : World} (h : Reads R g s w) : Reads R g s w.drew := h.more (grown_drewN w)
theorem LaidS.drew {R r b : Nat} {ce : Array Value} {w W : World} (h : LaidS R r b ce w W) : LaidS R r b ce w W.drew :=
  ⟨h.went.trans (went_none (grown_drewN W)), h.res, h.blk⟩
/-- What plain has laid, the expression's box too. -/
structure LaidP (R r b c : Nat) (cs ce : Array Value) (w W : World) : Prop where
  laid : LaidS R r b cs w W
  box : W.heap[c]? = some (.cells ce 47 (0, 0))
theorem plain_pre {R g : Nat} {s : St} {p : Ex × St} {w w1 w2 : World} {cs : Array Value} (hg1 : (w.alloc (.cells zeroS 55)).grownBy w1 none) (hR : R < w.heap.size) (hw2 : Went R (w1.alloc (.cells (cellsS 0 s.now.line s.now.col [] (.slice none 0 0) (.slice none 0 0) (.slice none 0 0)) 55)) w2)
    (hat : p.1.At w2 ((w1.alloc (.cells (cellsS 0 s.now.line s.now.col [] (.slice none 0 0) (.slice none 0 0) (.slice none 0 0)) 55)).heap.size ≤ ·) cs) (hr2 : Reads R g p.2 w2) :
    w.heap.size < w1.heap.size ∧ w1.heap.size < w2.heap.size ∧ LaidP R w.heap.size w1.heap.size w2.heap.size (cellsS 0 s.now.line s.now.col [] (.slice none 0 0) (.slice none 0 0) (.slice none 0 0)) cs w (w2.alloc (.cells cs 47)) ∧
    p.1.At (w2.alloc (.cells cs 47)) (fun q => w1.heap.size < q ∧ q ≠ w2.heap.size) cs ∧ Reads R g p.2 (w2.alloc (.cells cs 47)) := by
  have hz1 := hg1.size
  simp at hz1
  have hz2 := hw2.size
  simp at hz2
  have hL := laidS_of (cs := cellsS 0 s.now.line s.now.col [] (.slice none 0 0) (.slice none 0 0) (.slice none 0 0)) (went_none (R := R) hg1) hR
  refine ⟨by omega, by omega, ⟨(hL.went' hw2 hR (by omega)).alloc _, alloc_at _ _ _ rfl⟩, ?_, hr2.alloc _⟩
  refine Ex.At.keep (fun q hq hlt => ?_) (fun q hq hlt o => World.cell?_of_block (Below.heap_alloc _ _ _ hlt)) _ _ hat
  have h9 : (w1.alloc _).heap.size ≤ q := hq
  simp at h9
  exact ⟨by omega, by omega⟩

set_option maxHeartbeats 2000000 in
set_option maxRecDepth 100000 in
theorem plain_run {R g n : Nat} {part : Par} (hp : ExprOk R g n part) (s : St) (w : World) (hl : s.left.length ≤ n) (hd : s.deep + 2 * s.left.length + 1 ≤ 300000) (h : Reads R g s w) (hk : (pExpr part s).1.kind = 5) :
    Calls Tryz.prog 120 #[.pointer (some ⟨R, 0, none⟩)] w (SmPost R g (pPlain (pExpr part) s) w) := by
  have HV := Lib.hid (show pPlain (pExpr part) s = (.mk 7 s.now.line s.now.col [] [(pExpr part s).1] [] [], (pExpr part s).2.must [59]) by unfold pPlain; rw [if_pos hk])
  have HP := Lib.hid hp; have HR := Lib.hid h; have HK := Lib.hid hk
  have hRw := h.size
  clear hp h hk
  go_enter Tryz.func120, Tryz.ntmps120
  go_wp2_with (fail)
  refine (now_any R g s _ (HR.out.alloc _)).mono ?_
  rintro e w1 ⟨rfl, hg1⟩
  have HG1 := Lib.hid hg1
  have HRW := Lib.hid (((HR.out.alloc _).more hg1).alloc (.cells (cellsS 0 s.now.line s.now.col [] (.slice none 0 0) (.slice none 0 0) (.slice none 0 0)) 55))
  clear hg1
  unfold tokAgg
  go_wp2_with (fail)
  rw [field_at]
  simp only [Result.andThen]
  rw [Oper.upon_value]
  go_wp2_with (fail)
  refine (HP.out s _ hl hd HRW.out).mono ?_
  rintro e w2 ⟨cs, rfl, hat, hw2, hr2⟩
  obtain ⟨hlt1, hlt2, hL, hat', hr'⟩ := plain_pre HG1.out hRw hw2 hat hr2
  obtain ⟨k3, l3, c3, n3, m3, o3, a3, b3, d3, rfl⟩ := hat.cells
  obtain rfl : k3 = 5 := by
    have := HK.out
    revert hat this
    cases (pExpr part s).1 with
    | mk kd ln cl nm nme op ks =>
      intro hat this
      unfold Ex.At at hat
      obtain ⟨_, _, kv, he, _⟩ := hat
      simp [cells7] at he
      exact he.1.symm ▸ this
  clear hat hw2 hr2
  unfold cells7 at hL hat' hr'
  unfold cells7
  go_wp2_with (fail)
  generalize hW : w2.alloc (.cells #[.int .i64 5, .int .i64 l3, .int .i64 c3, .int .i64 n3, .string ⟨m3.toArray⟩, .int .i64 o3, .slice a3 b3 d3] 47) = W at hL hat' hr'
  have hsW : W.heap.size = w2.heap.size + 1 := by rw [← hW]; simp
  clear hW
  obtain ⟨⟨x0, x1, x2, x3, x4, x5, x6⟩, f0, f1, f2, f3, f4, f5, f6⟩ := seven hL.laid.blk
  obtain ⟨⟨y0, y1, y2, y3, y4, y5, y6⟩, g0, g1, g2, g3, g4, g5, g6⟩ := seven hL.box
  have HL := Lib.hid hL; have HAT := Lib.hid hat'; have HR2 := Lib.hid hr'
  have hlt3 : w1.heap.size < W.heap.size := by omega
  have hlt4 : w2.heap.size < W.heap.size := by omega
  clear hL hat' hr'
  go_wp2_with (fail)
  go_region
  all_goals go_wp2_with (fail)
  refine (must_any R g (pExpr part s).2 [59] _ (by repeat (first | with_reducible (refine Reads.drew ?_) | with_reducible (refine Reads.alloc ?_ _) | with_reducible (refine Reads.set ?_ _ _ (by omega)) | with_reducible (exact HR2.out)))).mono ?_
  rintro e w4 ⟨rfl, hw4, hr4⟩
  have hL4 := (((HL.out.laid.put 0 (.int .i64 7) (by omega) (by omega)).put 4 (.slice (some ⟨w2.heap.size + 1, 0, none⟩) 1 1) (by omega) (by omega)).alloc (.cells (cells7 5 l3 c3 n3 m3 o3 (.slice a3 b3 d3)) 47)).drew.went' hw4 hRw (by omega)
  have hz4 := hw4.size
  simp at hz4
  have hkb : w4.heap[w2.heap.size + 1]? = some (.cells (cells7 5 l3 c3 n3 m3 o3 (.slice a3 b3 d3)) 47 (0, 0)) := hw4.keep (alloc_at _ _ _ (by simp; omega)) (by omega)
  have hat4 : (pExpr part s).1.At w4 (fun q => w1.heap.size < q) (cells7 5 l3 c3 n3 m3 o3 (.slice a3 b3 d3)) := by
    refine Ex.At.keep (fun q hq hlt => hq.1) (fun q hq hlt o => ?_) _ _ HAT.out
    have h9 := hq.1
    rw [World.cell?_of_block (hw4.block q (by simp; omega) (by simp; omega))]
    show ((((W.setCell ⟨w1.heap.size, 0, none⟩ (.int .i64 7)).setCell ⟨w1.heap.size, 4, none⟩ (.slice (some ⟨w2.heap.size + 1, 0, none⟩) 1 1)).alloc (.cells (cells7 5 l3 c3 n3 m3 o3 (.slice a3 b3 d3)) 47))).cell? ⟨q, o, none⟩ = _
    rw [World.cell?_of_block (Below.heap_alloc _ _ _ (by simp; omega)), World.cell?_of_block (Below.heap_setCell _ _ _ _ (by show q ≠ w1.heap.size; omega)), World.cell?_of_block (Below.heap_setCell _ _ _ _ (by show q ≠ w1.heap.size; omega))]
  have hbk4 : w4.heap[w1.heap.size]? = some (.cells (cellsS 7 s.now.line s.now.col [] (.slice (some ⟨w2.heap.size + 1, 0, none⟩) 1 1) (.slice none 0 0) (.slice none 0 0)) 55 (0, 0)) := hL4.blk
  clear x0 x1 x2 x3 x4 x5 x6 f0 f1 f2 f3 f4 f5 f6 y0 y1 y2 y3 y4 y5 y6 g0 g1 g2 g3 g4 g5 g6
  obtain ⟨x0, x1, x2, x3, x4, x5, x6⟩ := (seven hbk4).1
  obtain ⟨⟨z0, z1, z2, z3, z4, z5, z6⟩, h0, h1, h2, h3, h4, h5, h6⟩ := seven hL4.res
  have HL4 := Lib.hid hL4; have HR4 := Lib.hid hr4
  have HAT4 := Lib.hid (sm_at (does := 7) (line := s.now.line) (col := s.now.col) (name := []) (kids_one (S := fun q => w1.heap.size < q) (by omega) hkb hat4) (body_none none 0) (body_none none 0))
  have hlt5 : w.heap.size < w4.heap.size := by omega
  have hlt6 : w1.heap.size < w4.heap.size := by omega
  clear hL4 hr4 hw4 hkb hat4 hbk4
  go_wp2_with (fail)
  refine bodyPost_ret (v := .agg (cellsS 7 s.now.line s.now.col [] (.slice (some ⟨w2.heap.size + 1, 0, none⟩) 1 1) (.slice none 0 0) (.slice none 0 0))) (by simp [results, Tryz.results120, go_sem, cellsS, z0, z1, z2, z3, z4, z5, z6]) rfl ?_
  rw [HV.out]
  refine sm_end (r := w.heap.size) (S := fun q => w1.heap.size < q) ?_ HAT4.out (fun q hq => ⟨by omega, by omega⟩) (Nat.le_refl _) hRw HL4.out.went HR4.out
  repeat (first | with_reducible (refine Sets.set ?_ _ _) | with_reducible (exact Sets.refl _ _))
end Go.Proofs.YtaomlahphlemdaaGreatDoor
