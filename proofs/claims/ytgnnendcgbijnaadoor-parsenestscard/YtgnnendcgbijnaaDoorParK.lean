/-
  The parser: what stands behind a sign.
-/
import Derived.Test.YtgnnendcgbijnaaDoorParJ
namespace Go.Proofs.YtgnnendcgbijnaaDoor
open Go.ChangeShapes Go.WideShapes Go.ChangeAt Go.RowKit
set_option linter.unusedVariables false

def pOperand (u : Par) : Par := fun s => ((u s.enter.next).1, (u s.enter.next).2.leave)
theorem operand_len {R g n : Nat} {s : St} {w : World} (h : Reads R g s w) (hk : s.now.kind ≠ 0) (hl : s.left.length ≤ n + 1) : s.enter.next.left.length ≤ n ∧ s.enter.next.left.length + 1 ≤ s.left.length ∧ s.enter.next.deep = s.deep + 1 := by
  obtain ⟨t, r, e⟩ := List.exists_cons_of_ne_nil h.last.ne
  have hnow : s.now = t := by unfold St.now; rw [e]; rfl
  have hr : r ≠ [] := LastEnd.two (t := t) (r := r) (by rw [← e]; exact h.last) (by rw [← hnow]; exact hk)
  have hr1 : 1 ≤ r.length := List.length_pos_iff.mpr hr
  have hlen : s.left.length = r.length + 1 := by rw [e]; rfl
  have hef := s.enter_fine
  have hnf := s.enter.next_fine
  refine (fun hq => ⟨by omega, hq, by rw [hnf.1, hef.1]⟩) ?_
  by_cases hf : 200 ≤ s.deep ∧ s.err = 0
  · have : s.enter.left.length ≤ 1 := by unfold St.enter St.fail; simp only [if_pos hf.1, if_pos hf.2, List.length_drop]; omega
    omega
  · have hsame : s.enter.left = s.left := by
      unfold St.enter St.fail
      by_cases h1 : 200 ≤ s.deep
      · simp only [if_pos h1, if_neg (show ¬ s.err = 0 from fun h2 => hf ⟨h1, h2⟩)]
      · simp only [if_neg h1]
    have hnow2 : s.enter.now = s.now := by unfold St.now; rw [hsame]
    unfold St.next
    rw [hnow2, if_neg hk]
    simp [hsame, e]

set_option maxHeartbeats 1000000 in
set_option maxRecDepth 100000 in
theorem operand_any {R g n : Nat} {u : Par} (hp : ParOk R g n 92 u) (hf : Fine n u) (s : St) (w : World) (hl : s.left.length ≤ n + 1) (hk : s.now.kind ≠ 0) (hd : s.deep + 2 * s.left.length ≤ 300000) (h : Reads R g s w) :
    Calls Tryd.prog 93 #[.pointer (some ⟨R, 0, none⟩)] w (ExPost R g (pOperand u s) w) := by
  have HLN := Lib.hid (operand_len h hk hl)
  have HP := Lib.hid hp; have HF := Lib.hid hf; have HR := Lib.hid h
  have hRw := h.size
  have hd0 := h.deep
  clear hp hf h hk
  go_enter_defers Tryd.func93, Tryd.ntmps93
  go_wp2_with (fail)
  refine (enter_any R g s _ (HR.out.alloc _) (by omega)).mono ?_
  rintro e w1 ⟨rfl, hw1, hr1⟩
  have hz1 := hw1.size
  simp at hz1
  have hres1 := hw1.keep (alloc_at w _ _ rfl) (by omega)
  have HW1 := Lib.hid ((went_none (R := R) (grown_alloc w _)).trans hw1); have HR1 := Lib.hid hr1; have HRES1 := Lib.hid hres1
  clear hw1 hr1 hres1
  go_wp2_with (fail)
  refine (take_any R g s.enter _ HR1.out).mono ?_
  rintro e wt ⟨rfl, hwt, hrt⟩
  have hzt := hwt.size
  have HWT := Lib.hid hwt; have HRT := Lib.hid hrt
  clear hwt hrt
  unfold tokAgg
  go_wp2_with (fail)
  refine (HP.out s.enter.next _ (by have := HLN.out; omega) (by have := HLN.out; omega) HRT.out).mono ?_
  rintro e w2 ⟨cs, rfl, hat, hw2, hr2⟩
  obtain ⟨k3, l3, c3, n3, m3, o3, a3, b3, d3, rfl⟩ := hat.cells
  have hz2 := hw2.size
  have hrs := hw2.keep (HWT.out.keep HRES1.out (by omega)) (by omega)
  obtain ⟨⟨z0, z1, z2, z3, z4, z5, z6⟩, f0, f1, f2, f3, f4, f5, f6⟩ := seven hrs
  have HAT := Lib.hid hat; have HW2 := Lib.hid hw2; have HR2 := Lib.hid hr2; have HRS := Lib.hid hrs
  clear hat hw2 hr2 hrs
  unfold cells7
  go_wp2_with (fail)
  generalize hD : ((((((w2.setCell ⟨w.heap.size, 0, none⟩ (.int .i64 k3)).setCell ⟨w.heap.size, 1, none⟩ (.int .i64 l3)).setCell ⟨w.heap.size, 2, none⟩ (.int .i64 c3)).setCell ⟨w.heap.size, 3, none⟩ (.int .i64 n3)).setCell ⟨w.heap.size, 4, none⟩ (.string ⟨m3.toArray⟩)).setCell ⟨w.heap.size, 5, none⟩ (.int .i64 o3)).setCell ⟨w.heap.size, 6, none⟩ (.slice a3 b3 d3) = D
  have hset : Sets w.heap.size w2 D := by rw [← hD]; exact Sets.set (Sets.set (Sets.set (Sets.set (Sets.set (Sets.set (Sets.set (Sets.refl _ _) _ _) _ _) _ _) _ _) _ _) _ _) _ _
  have hblk : D.heap[w.heap.size]? = some (.cells (cells7 k3 l3 c3 n3 m3 o3 (.slice a3 b3 d3)) 51 (0, 0)) := by rw [← hD]; exact set7 _ _ _ _ _ _ _ HRS.out
  clear hD
  have hpost := ex_end (r := w.heap.size) (w := w) hset HAT.out (fun q hq => by have : wt.heap.size ≤ q := hq; omega) (Nat.le_refl _) hRw ((HW1.out.trans HWT.out).trans HW2.out) HR2.out
  obtain ⟨_, e1, hatD, hwD, hrD⟩ := hpost
  cases e1
  have hfc := HF.out s.enter.next (by have := HLN.out; omega)
  have hdp : (u s.enter.next).2.deep = s.deep + 1 := by rw [hfc.1, HLN.out.2.2]
  refine leaves_cons (f := 57) (args := #[.pointer (some ⟨R, 0, none⟩)]) (by simp) (by simp [go_sem]) ?_
  refine (leave_d R g _ .returning _ hrD (by omega)).mono ?_
  rintro e u' w'' ⟨rfl, rfl, rfl⟩
  have hfin : (D.setCell ⟨R, 1, none⟩ (.int .i64 ((u s.enter.next).2.deep - 1))).heap[w.heap.size]? = some (.cells (cells7 k3 l3 c3 n3 m3 o3 (.slice a3 b3 d3)) 51 (0, 0)) := (Below.heap_setCell _ _ _ _ (by show w.heap.size ≠ R; omega)).trans hblk
  obtain ⟨y0, y1, y2, y3, y4, y5, y6⟩ := (own7 hfin)
  refine ⟨.agg (cells7 k3 l3 c3 n3 m3 o3 (.slice a3 b3 d3)), (by simp [results, Tryd.results93, go_sem, cells7, y0, y1, y2, y3, y4, y5, y6]), ?_⟩
  refine ⟨_, rfl, ?_, hwD.trans (went_set _ _ _ _), hrD.put1 _ (by omega)⟩
  exact Ex.At.keep (fun q h _ => h) (fun q h _ o => World.cell?_of_block (Below.heap_setCell _ _ _ _ (by have : w.heap.size ≤ q := h; show q ≠ R; omega))) _ _ hatD
end Go.Proofs.YtgnnendcgbijnaaDoor
