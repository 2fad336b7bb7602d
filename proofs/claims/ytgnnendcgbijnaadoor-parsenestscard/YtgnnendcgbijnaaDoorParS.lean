/-
  The parser: loops and choices, over what a block is, and what stands behind else.
-/
import Derived.Test.YtgnnendcgbijnaaDoorParR
namespace Go.Proofs.YtgnnendcgbijnaaDoor
open Go.ChangeShapes Go.WideShapes Go.ChangeAt Go.RowKit
set_option linter.unusedVariables false

theorem Reads.sets2 {R g r b : Nat} {s : St} {w w' : World} (h : Reads R g s w) (hr : R < r) (hb : R < b) (hs : Sets2 r b w w') : Reads R g s w' := by
  have h1 := h.lt; have h2 := h.low
  obtain ⟨o, cap, a1, a2, a3⟩ := h.row
  exact ⟨h.lt, ⟨o, cap, (hs.keep R (by omega) (by omega)).trans a1, a2, a3.keep fun p => World.cell?_of_block (hs.keep g (by omega) (by omega))⟩, h.last, h.len, h.deep, h.low, h.signs.keep (by rw [hs.size]; exact Nat.le_refl _) fun p => World.cell?_of_block (hs.keep 1 (by omega) (by omega))⟩
theorem sm_end2 {R g r b : Nat} {S : Nat → Prop} {p : Sm × St} {cs : Array Value} {w w2 w' : World} (hs : Sets2 r b w2 w') (hat : p.1.At w2 S cs) (hS : ∀ q, S q → w.heap.size ≤ q ∧ q ≠ r ∧ q ≠ b) (hr : w.heap.size ≤ r) (hb : w.heap.size ≤ b) (hR : R < r) (hRb : R < b) (hw : Went R w w2) (hrd : Reads R g p.2 w2) : SmPost R g p w (.returned (.agg cs)) w' :=
  ⟨cs, rfl, Sm.At.keep (fun q hq _ => (hS q hq).1) (fun q hq _ o => World.cell?_of_block (hs.keep q (hS q hq).2.1 (hS q hq).2.2)) _ _ hat,
    ⟨hs.os.trans hw.os, hs.tape.trans hw.tape, hs.output.trans hw.output, by rw [hs.size]; exact hw.size, fun k hk hne => (hs.keep k (by omega) (by omega)).trans (hw.block k hk hne)⟩, hrd.sets2 hR hRb hs⟩

def pLoop (ex : Par) (blk : St → List Sm × St) : ParS := fun s => (.mk 5 s.now.line s.now.col [] [(ex s.next).1] (blk (ex s.next).2).1 [], (blk (ex s.next).2).2)
set_option maxHeartbeats 2000000 in
set_option maxRecDepth 100000 in
theorem loop_any {R g n : Nat} {part : Par} {blk : St → List Sm × St} (hp : ExprOk R g n part) (hb : BlockOk R g n 45 blk) (hf : Fine n (pExpr part)) (hgp : GoodP (pExpr part)) (s : St) (w : World) (hgd : Good s) (hl : s.next.left.length ≤ n) (hd : s.next.deep + 2 * s.next.left.length + 1 ≤ 300000) (h : Reads R g s w) :
    Calls Tryd.prog 70 #[.pointer (some ⟨R, 0, none⟩)] w (SmPost R g (pLoop (pExpr part) blk s) w) := by
  have HP := Lib.hid hp; have HR := Lib.hid h; have HB := Lib.hid hb; have hfx := hf s.next hl
  have hRw := h.size
  clear hp h hb hf
  go_enter Tryd.func70, Tryd.ntmps70
  go_wp2_with (fail)
  refine (take_any R g s _ (HR.out.alloc _)).mono ?_
  rintro e w1 ⟨rfl, hw1, hr1⟩
  have hz1 := hw1.size
  simp at hz1
  have HL := Lib.hid (laidS_of (cs := cellsS 5 s.now.line s.now.col [] (.slice none 0 0) (.slice none 0 0) (.slice none 0 0)) hw1 hRw)
  have HR1 := Lib.hid hr1
  clear hw1 hr1
  unfold tokAgg
  go_wp2_with (fail)
  rw [field_at]
  simp only [Result.andThen]
  rw [Oper.upon_value]
  go_wp2_with (fail)
  refine (HP.out s.next _ hl hd (HR1.out.alloc _)).mono ?_
  rintro e w2 ⟨cs, rfl, hat, hw2, hr2⟩
  obtain ⟨k3, l3, c3, n3, m3, o3, a3, b3, d3, rfl⟩ := hat.cells
  have hz2 := hw2.size
  simp at hz2
  have hL2 := HL.out.went' hw2 hRw (by omega)
  have hbk2 : w2.heap[w1.heap.size]? = some (.cells (cellsS 5 s.now.line s.now.col [] (.slice none 0 0) (.slice none 0 0) (.slice none 0 0)) 45 (0, 0)) := hL2.blk
  obtain ⟨⟨x0, x1, x2, x3, x4, x5, x6⟩, f0, f1, f2, f3, f4, f5, f6⟩ := seven hbk2
  have HL2 := Lib.hid hL2; have HR2 := Lib.hid hr2; have HAT := Lib.hid hat
  have hlt2 : w1.heap.size < w2.heap.size := by omega
  clear hL2 hbk2 hw2 hr2 hat
  unfold cells7
  go_wp2_with (fail)
  refine (HB.out (pExpr part s.next).2 _ (hgp _ (St.next_good hgd)) (by omega) (by omega) (by repeat (first | with_reducible (refine Reads.alloc ?_ _) | with_reducible (refine Reads.set ?_ _ _ (by omega)) | with_reducible (exact HR2.out)))).mono ?_
  rintro e w4 ⟨v, rfl, hbody, hw4, hr4⟩
  obtain ⟨va, vk, vc, rfl⟩ := hbody.slice
  have hL4 := ((HL2.out.put 4 (.slice (some ⟨w2.heap.size, 0, none⟩) 1 1) (by omega) (by omega)).alloc (.cells (cells7 k3 l3 c3 n3 m3 o3 (.slice a3 b3 d3)) 51)).went' hw4 hRw (by omega)
  have hz4 := hw4.size
  simp at hz4
  have hkb : w4.heap[w2.heap.size]? = some (.cells (cells7 k3 l3 c3 n3 m3 o3 (.slice a3 b3 d3)) 51 (0, 0)) := hw4.keep (alloc_at _ _ _ (by simp)) (by omega)
  have hat4 : (pExpr part s.next).1.At w4 (fun q => w1.heap.size < q) (cells7 k3 l3 c3 n3 m3 o3 (.slice a3 b3 d3)) := by
    refine Ex.At.keep (fun q hq hlt => ?_) (fun q hq hlt o => ?_) _ _ HAT.out
    · have h9 : (w1.alloc _).heap.size ≤ q := hq
      simp at h9; omega
    · have h9 : (w1.alloc _).heap.size ≤ q := hq
      simp at h9
      rw [World.cell?_of_block (hw4.block q (by simp; omega) (by simp; omega)), World.cell?_of_block (Below.heap_alloc _ _ _ (by simp; omega)), World.cell?_of_block (Below.heap_setCell _ _ _ _ (by show q ≠ w1.heap.size; omega))]
  have hbk4 : w4.heap[w1.heap.size]? = some (.cells (cellsS 5 s.now.line s.now.col [] (.slice (some ⟨w2.heap.size, 0, none⟩) 1 1) (.slice none 0 0) (.slice none 0 0)) 45 (0, 0)) := hL4.blk
  clear x0 x1 x2 x3 x4 x5 x6 f0 f1 f2 f3 f4 f5 f6
  obtain ⟨⟨x0, x1, x2, x3, x4, x5, x6⟩, f0, f1, f2, f3, f4, f5, f6⟩ := seven hbk4
  obtain ⟨⟨z0, z1, z2, z3, z4, z5, z6⟩, h0, h1, h2, h3, h4, h5, h6⟩ := seven hL4.res
  have HL4 := Lib.hid hL4; have HR4 := Lib.hid hr4
  have HAT4 := Lib.hid (sm_at (does := 5) (line := s.now.line) (col := s.now.col) (name := []) (kids_one (S := fun q => w1.heap.size < q) (by omega) hkb hat4) (hbody.keep (S' := fun q => w1.heap.size < q) (fun q hq _ => by have h9 : ((w2.setCell ⟨w1.heap.size, 4, none⟩ (.slice (some ⟨w2.heap.size, 0, none⟩) 1 1)).alloc (.cells (cells7 k3 l3 c3 n3 m3 o3 (.slice a3 b3 d3)) 51)).heap.size ≤ q := hq; simp at h9; omega) (fun _ _ _ _ => rfl)) (body_none none 0))
  have hlt5 : w.heap.size < w4.heap.size := by omega
  have hlt6 : w1.heap.size < w4.heap.size := by omega
  clear hL4 hr4 hw4 hkb hat4 hbk4 hbody
  go_wp2_with (fail)
  refine bodyPost_ret (v := .agg (cellsS 5 s.now.line s.now.col [] (.slice (some ⟨w2.heap.size, 0, none⟩) 1 1) (.slice va vk vc) (.slice none 0 0))) (by simp [results, Tryd.results70, go_sem, cellsS, z0, z1, z2, z3, z4, z5, z6]) rfl ?_
  refine sm_end2 (r := w.heap.size) (b := w1.heap.size) (S := fun q => w1.heap.size < q) ?_ HAT4.out (fun q hq => ⟨by omega, by omega, by omega⟩) (Nat.le_refl _) (by omega) hRw (by omega) HL4.out.went HR4.out
  repeat (first | with_reducible (refine Sets2.set ?_ _ _) | with_reducible (refine Sets2.set' ?_ _ _) | with_reducible (exact Sets2.refl _ _ _))
end Go.Proofs.YtgnnendcgbijnaaDoor
