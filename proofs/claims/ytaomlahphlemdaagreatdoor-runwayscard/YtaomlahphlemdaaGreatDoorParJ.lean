/-
  The parser: expressions: one part deeper, and back by a deferred call.
-/
import Derived.Test.YtaomlahphlemdaaGreatDoorParI
import Derived.Test.YtaomlahphlemdaaGreatDoorParGd
import Derived.Defers
namespace Go.Proofs.YtaomlahphlemdaaGreatDoor
open Go.ChangeShapes Go.WideShapes Go.ChangeAt Go.RowKit
set_option linter.unusedVariables false

theorem St.fail_fine (s : St) (e l c : Int) : (s.fail e l c).deep = s.deep ∧ (s.fail e l c).left.length ≤ s.left.length := by
  unfold St.fail; split
  · exact ⟨rfl, by simp⟩
  · exact ⟨rfl, Nat.le_refl _⟩
theorem St.enter_fine (s : St) : s.enter.deep = s.deep + 1 ∧ s.enter.left.length ≤ s.left.length := by
  unfold St.enter
  have := s.fail_fine 13 s.now.line s.now.col
  by_cases h : 200 ≤ s.deep
  · simp only [if_pos h]; exact ⟨by rw [this.1], this.2⟩
  · simp only [if_neg h]; exact ⟨trivial, Nat.le_refl _⟩

set_option maxHeartbeats 1000000 in
set_option maxRecDepth 100000 in
theorem leave_d (R g : Nat) (s : St) (u : FrameMode) (w : World) (h : Reads R g s w) (hd : 1 ≤ s.deep) :
    CallsD Tryz.prog 103 #[.pointer (some ⟨R, 0, none⟩)] u w fun e u' w' => u' = u ∧ (e = .returned (.tuple #[]) ∧ w' = w.setCell ⟨R, 1, none⟩ (.int .i64 (s.deep - 1))) := by
  obtain ⟨d1, d2⟩ := h.deep
  obtain ⟨o, n, cap, t, r, hl, hn, hcap, hmax, hR, c0, c1, c2, c3, c4, a0, a1, a2, a3, a4, hrow⟩ := h.open
  have g1 := frozenR (j := 1) hR
  clear hl hn hrow hR h a0 a1 a2 a3 a4 c0 c2 c3 c4
  go_enter_d Tryz.func103, Tryz.ntmps103
  go_wp2
  go_end0
  exact ⟨rfl, rfl⟩

def orMarks : List (List UInt8) := [[124, 124]]
def pExpr (part : Par) : Par := fun s => ((chainL part orMarks s.enter).1, (chainL part orMarks s.enter).2.leave)
theorem expr_fine {n : Nat} {part : Par} (hf : Fine n part) : Fine n (pExpr part) := fun s h => by
  have h1 := s.enter_fine
  have h2 := chain_fine hf orMarks s.enter (by omega)
  unfold pExpr St.leave
  exact ⟨by simp only; rw [h2.1, h1.1]; omega, by simp only; omega⟩
/-- What expr promises: it needs room for one part more. -/
def ExprOk (R g n : Nat) (part : Par) : Prop := ∀ (s : St) (w : World), s.left.length ≤ n → s.deep + 2 * s.left.length + 1 ≤ 300000 → Reads R g s w →
  Calls Tryz.prog 131 #[.pointer (some ⟨R, 0, none⟩)] w (ExPost R g (pExpr part s) w)

set_option maxHeartbeats 1000000 in
set_option maxRecDepth 100000 in
theorem expr_any {R g n : Nat} {part : Par} (hp : ParOk R g n 139 part) (hf : Fine n part) : ExprOk R g n part := by
  intro s w hl hd h
  have HP := Lib.hid hp; have HF := Lib.hid hf; have HR := Lib.hid h
  have hRw := h.size
  have hlen1 : 1 ≤ s.left.length := by have := h.last.ne; cases hq : s.left with | nil => exact absurd hq this | cons => simp
  clear hp hf h
  go_enter_defers Tryz.func131, Tryz.ntmps131
  go_wp2_with (fail)
  refine (enter_any R g s _ (HR.out.alloc _) (by omega)).mono ?_
  rintro e w1 ⟨rfl, hw1, hr1⟩
  have hz1 := hw1.size
  simp at hz1
  have hres1 := hw1.keep (alloc_at w _ _ rfl) (by omega)
  have HW1 := Lib.hid ((went_none (R := R) (grown_alloc w _)).trans hw1); have HR1 := Lib.hid hr1; have HRES1 := Lib.hid hres1
  clear hw1 hr1 hres1
  go_wp2_with (fail)
  generalize hW : w1.alloc (.cells #[.string ⟨#[124, 124]⟩] 9) = W
  have hg : w1.grownBy W none := by rw [← hW]; exact grown_alloc _ _
  have hmk : Marks W w1.heap.size orMarks := by rw [← hW]; exact marks_of (alloc_at _ _ _ rfl)
  have hsz : W.heap.size = w1.heap.size + 1 := by rw [← hW]; simp
  clear hW
  have HG := Lib.hid hg; have HSZ := Lib.hid hsz; have HMK := Lib.hid hmk
  have hef := s.enter_fine
  have HEF := Lib.hid hef
  clear hg hsz hmk
  refine (chain_and R g n part HP.out HF.out orMarks (by decide) (by decide) w1.heap.size s.enter W (by omega) (by omega) (HR1.out.more HG.out) HMK.out (by have := HSZ.out; omega) (by omega)).mono ?_
  rintro e w2 ⟨cs, rfl, hat, hw2, hr2⟩
  obtain ⟨k3, l3, c3, n3, m3, o3, a3, b3, d3, rfl⟩ := hat.cells
  have hz2 := hw2.size
  have hrs := hw2.keep ((went_none (R := R) HG.out).keep HRES1.out (by omega)) (by omega)
  obtain ⟨⟨z0, z1, z2, z3, z4, z5, z6⟩, f0, f1, f2, f3, f4, f5, f6⟩ := seven hrs
  have HAT := Lib.hid hat; have HW2 := Lib.hid hw2; have HR2 := Lib.hid hr2
  clear hat hw2 hr2 hrs
  unfold cells7
  go_wp2_with (fail)
  generalize hD : ((((((w2.setCell ⟨w.heap.size, 0, none⟩ (.int .i64 k3)).setCell ⟨w.heap.size, 1, none⟩ (.int .i64 l3)).setCell ⟨w.heap.size, 2, none⟩ (.int .i64 c3)).setCell ⟨w.heap.size, 3, none⟩ (.int .i64 n3)).setCell ⟨w.heap.size, 4, none⟩ (.string ⟨m3.toArray⟩)).setCell ⟨w.heap.size, 5, none⟩ (.int .i64 o3)).setCell ⟨w.heap.size, 6, none⟩ (.slice a3 b3 d3) = D
  have hset : Sets w.heap.size w2 D := by rw [← hD]; exact Sets.set (Sets.set (Sets.set (Sets.set (Sets.set (Sets.set (Sets.set (Sets.refl _ _) _ _) _ _) _ _) _ _) _ _) _ _) _ _
  have hblk : D.heap[w.heap.size]? = some (.cells (cells7 k3 l3 c3 n3 m3 o3 (.slice a3 b3 d3)) 47 (0, 0)) := by rw [← hD]; exact set7 _ _ _ _ _ _ _ (HW2.out.keep ((went_none (R := R) HG.out).keep HRES1.out (by omega)) (by omega))
  clear hD
  have hpost := ex_end (r := w.heap.size) (w := w) hset HAT.out (fun q hq => by have : W.heap.size ≤ q := hq; have := HSZ.out; omega) (Nat.le_refl _) hRw ((HW1.out.trans (went_none HG.out)).trans HW2.out) HR2.out
  obtain ⟨_, e1, hatD, hwD, hrD⟩ := hpost
  cases e1
  have hfc := chain_fine HF.out orMarks s.enter (by have := HEF.out; omega)
  have hdp : (chainL part orMarks s.enter).2.deep = s.deep + 1 := by rw [hfc.1, HEF.out.1]
  have hd0 := HR.out.deep
  refine leaves_cons (f := 103) (args := #[.pointer (some ⟨R, 0, none⟩)]) (by simp) (by simp [go_sem]) ?_
  refine (leave_d R g _ .returning _ hrD (by omega)).mono ?_
  rintro e u' w'' ⟨rfl, rfl, rfl⟩
  have hfin : (D.setCell ⟨R, 1, none⟩ (.int .i64 ((chainL part orMarks s.enter).2.deep - 1))).heap[w.heap.size]? = some (.cells (cells7 k3 l3 c3 n3 m3 o3 (.slice a3 b3 d3)) 47 (0, 0)) := (Below.heap_setCell _ _ _ _ (by show w.heap.size ≠ R; omega)).trans hblk
  obtain ⟨y0, y1, y2, y3, y4, y5, y6⟩ := (own7 hfin)
  refine ⟨.agg (cells7 k3 l3 c3 n3 m3 o3 (.slice a3 b3 d3)), (by simp [results, Tryz.results131, go_sem, cells7, y0, y1, y2, y3, y4, y5, y6]), ?_⟩
  refine ⟨_, rfl, ?_, hwD.trans (went_set _ _ _ _), hrD.put1 _ (by omega)⟩
  exact Ex.At.keep (fun q h _ => h) (fun q h _ o => World.cell?_of_block (Below.heap_setCell _ _ _ _ (by have : w.heap.size ≤ q := h; show q ≠ R; omega))) _ _ hatD
end Go.Proofs.YtaomlahphlemdaaGreatDoor
