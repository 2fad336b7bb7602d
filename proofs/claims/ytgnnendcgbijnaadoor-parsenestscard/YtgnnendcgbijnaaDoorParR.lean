/-
  The parser: let; loops, over what a block is.
-/
import Derived.Test.YtgnnendcgbijnaaDoorParQ
import Derived.Test.YtgnnendcgbijnaaDoorParPg
namespace Go.Proofs.YtgnnendcgbijnaaDoor
open Go.ChangeShapes Go.WideShapes Go.ChangeAt Go.RowKit
set_option linter.unusedVariables false

theorem St.want_fine (s : St) (k : Int) : (s.want k).2.deep = s.deep ∧ (s.want k).2.left.length ≤ s.left.length := by
  unfold St.want; split
  · exact s.next_fine
  · exact s.fail_fine _ _ _
/-- It answers a list of statements in new memory. -/
def BodyPost (R g : Nat) (p : List Sm × St) (w : World) (e : Ending) (w' : World) : Prop := ∃ v, e = .returned v ∧ BodyAt w' (w.heap.size ≤ ·) p.1 v ∧ Went R w w' ∧ Reads R g p.2 w'
/-- What block promises. -/
def BlockOk (R g n f : Nat) (blk : St → List Sm × St) : Prop := ∀ (s : St) (w : World), Good s → s.left.length ≤ n → s.deep + 2 * s.left.length + 1 ≤ 300000 → Reads R g s w →
  Calls Tryd.prog f #[.pointer (some ⟨R, 0, none⟩)] w (BodyPost R g (blk s) w)

def letWant (s : St) : Tok × St := s.next.want 1
def pLet (ex : Par) : ParS := fun s => (.mk 1 s.now.line s.now.col (letWant s).1.text [(ex ((letWant s).2.must [61])).1] [] [], (ex ((letWant s).2.must [61])).2.must [59])
set_option maxHeartbeats 2000000 in
set_option maxRecDepth 100000 in
theorem let_any {R g n : Nat} {part : Par} (hp : ExprOk R g n part) (s : St) (w : World) (hl : s.left.length ≤ n) (hd : s.deep + 2 * s.left.length + 1 ≤ 300000) (h : Reads R g s w) :
    Calls Tryd.prog 68 #[.pointer (some ⟨R, 0, none⟩)] w (SmPost R g (pLet (pExpr part) s) w) := by
  have HP := Lib.hid hp; have HR := Lib.hid h
  have hRw := h.size
  clear hp h
  go_enter Tryd.func68, Tryd.ntmps68
  go_wp2_with (fail)
  refine (take_any R g s _ (HR.out.alloc _)).mono ?_
  rintro e w1 ⟨rfl, hw1, hr1⟩
  have hz1 := hw1.size
  simp at hz1
  have HL := Lib.hid (laidS_of (cs := cellsS 1 s.now.line s.now.col [] (.slice none 0 0) (.slice none 0 0) (.slice none 0 0)) hw1 hRw)
  have HR1 := Lib.hid hr1
  clear hw1 hr1
  unfold tokAgg
  go_wp2_with (fail)
  rw [field_at]
  simp only [Result.andThen]
  rw [Oper.upon_value]
  go_wp2_with (fail)
  refine (want_any R g s.next 1 _ (HR1.out.alloc _)).mono ?_
  rintro e wa ⟨rfl, hwa, hra⟩
  have hza := hwa.size
  simp at hza
  have hLa := HL.out.went' hwa hRw (by omega)
  have hbka : wa.heap[w1.heap.size]? = some (.cells (cellsS 1 s.now.line s.now.col [] (.slice none 0 0) (.slice none 0 0) (.slice none 0 0)) 45 (0, 0)) := hLa.blk
  obtain ⟨⟨x0, x1, x2, x3, x4, x5, x6⟩, f0, f1, f2, f3, f4, f5, f6⟩ := seven hbka
  have HLA := Lib.hid hLa; have HRA := Lib.hid hra
  have hlta : w1.heap.size < wa.heap.size := by omega
  clear hLa hbka hwa hra
  unfold tokAgg
  go_wp2_with (fail)
  rw [field_text]
  simp only [Result.andThen]
  rw [Oper.upon_value]
  go_wp2_with (fail)
  refine (must_any R g (letWant s).2 [61] _ (HRA.out.set _ _ (by omega))).mono ?_
  rintro e wb ⟨rfl, hwb, hrb⟩
  have hzb := hwb.size
  simp at hzb
  have HLB := Lib.hid ((HLA.out.put 3 (.string ⟨(letWant s).1.text.toArray⟩) (by omega) (by omega)).went' hwb hRw (by omega)); have HRB := Lib.hid hrb
  have hf1 := s.next_fine
  have hf2 := s.next.want_fine 1
  have hf3 := (letWant s).2.must_fine [61]
  have hf4 : (letWant s).2.deep = s.deep ∧ (letWant s).2.left.length ≤ s.left.length := ⟨by unfold letWant; rw [hf2.1, hf1.1], by unfold letWant; omega⟩
  clear hwb hrb x0 x1 x2 x3 x4 x5 x6 f0 f1 f2 f3 f4 f5 f6
  go_wp2_with (fail)
  refine (HP.out ((letWant s).2.must [61]) _ (by omega) (by omega) HRB.out).mono ?_
  rintro e w2 ⟨cs, rfl, hat, hw2, hr2⟩
  obtain ⟨k3, l3, c3, n3, m3, o3, a3, b3, d3, rfl⟩ := hat.cells
  have hz2 := hw2.size
  have hL2 := HLB.out.went' hw2 hRw (by omega)
  have hbk2 : w2.heap[w1.heap.size]? = some (.cells (cellsS 1 s.now.line s.now.col (letWant s).1.text (.slice none 0 0) (.slice none 0 0) (.slice none 0 0)) 45 (0, 0)) := hL2.blk
  obtain ⟨⟨x0, x1, x2, x3, x4, x5, x6⟩, f0, f1, f2, f3, f4, f5, f6⟩ := seven hbk2
  have HL2 := Lib.hid hL2; have HR2 := Lib.hid hr2; have HAT := Lib.hid hat
  have hlt2 : w1.heap.size < w2.heap.size := by omega
  clear hL2 hbk2 hw2 hr2 hat
  unfold cells7
  go_wp2_with (fail)
  refine (must_any R g (pExpr part ((letWant s).2.must [61])).2 [59] _ (by repeat (first | with_reducible (refine Reads.alloc ?_ _) | with_reducible (refine Reads.set ?_ _ _ (by omega)) | with_reducible (exact HR2.out)))).mono ?_
  rintro e w4 ⟨rfl, hw4, hr4⟩
  have hL4 := ((HL2.out.put 4 (.slice (some ⟨w2.heap.size, 0, none⟩) 1 1) (by omega) (by omega)).alloc (.cells (cells7 k3 l3 c3 n3 m3 o3 (.slice a3 b3 d3)) 51)).went' hw4 hRw (by omega)
  have hz4 := hw4.size
  simp at hz4
  have hkb : w4.heap[w2.heap.size]? = some (.cells (cells7 k3 l3 c3 n3 m3 o3 (.slice a3 b3 d3)) 51 (0, 0)) := hw4.keep (alloc_at _ _ _ (by simp)) (by omega)
  have hat4 : (pExpr part ((letWant s).2.must [61])).1.At w4 (fun q => w1.heap.size < q) (cells7 k3 l3 c3 n3 m3 o3 (.slice a3 b3 d3)) := by
    refine Ex.At.keep (fun q hq hlt => ?_) (fun q hq hlt o => ?_) _ _ HAT.out
    · have h9 : wb.heap.size ≤ q := hq
      omega
    · have h9 : wb.heap.size ≤ q := hq
      rw [World.cell?_of_block (hw4.block q (by simp; omega) (by simp; omega)), World.cell?_of_block (Below.heap_alloc _ _ _ (by simp; omega)), World.cell?_of_block (Below.heap_setCell _ _ _ _ (by show q ≠ w1.heap.size; omega))]
  have hbk4 : w4.heap[w1.heap.size]? = some (.cells (cellsS 1 s.now.line s.now.col (letWant s).1.text (.slice (some ⟨w2.heap.size, 0, none⟩) 1 1) (.slice none 0 0) (.slice none 0 0)) 45 (0, 0)) := hL4.blk
  clear x0 x1 x2 x3 x4 x5 x6 f0 f1 f2 f3 f4 f5 f6
  obtain ⟨x0, x1, x2, x3, x4, x5, x6⟩ := (seven hbk4).1
  obtain ⟨⟨z0, z1, z2, z3, z4, z5, z6⟩, h0, h1, h2, h3, h4, h5, h6⟩ := seven hL4.res
  have HL4 := Lib.hid hL4; have HR4 := Lib.hid hr4
  have HAT4 := Lib.hid (sm_at (does := 1) (line := s.now.line) (col := s.now.col) (name := (letWant s).1.text) (kids_one (S := fun q => w1.heap.size < q) (by omega) hkb hat4) (body_none none 0) (body_none none 0))
  have hlt5 : w.heap.size < w4.heap.size := by omega
  have hlt6 : w1.heap.size < w4.heap.size := by omega
  clear hL4 hr4 hw4 hkb hat4 hbk4
  go_wp2_with (fail)
  refine bodyPost_ret (v := .agg (cellsS 1 s.now.line s.now.col (letWant s).1.text (.slice (some ⟨w2.heap.size, 0, none⟩) 1 1) (.slice none 0 0) (.slice none 0 0))) (by simp [results, Tryd.results68, go_sem, cellsS, z0, z1, z2, z3, z4, z5, z6]) rfl ?_
  refine sm_end (r := w.heap.size) (S := fun q => w1.heap.size < q) ?_ HAT4.out (fun q hq => ⟨by omega, by omega⟩) (Nat.le_refl _) hRw HL4.out.went HR4.out
  repeat (first | with_reducible (refine Sets.set ?_ _ _) | with_reducible (exact Sets.refl _ _))
end Go.Proofs.YtgnnendcgbijnaaDoor
