/-
  The parser: terms, sums.
-/
import Derived.Test.YtaomlahphlemdaaGreatDoorParGa
import Derived.Test.YtaomlahphlemdaaGreatDoorParGb
namespace Go.Proofs.YtaomlahphlemdaaGreatDoor
open Go.ChangeShapes Go.WideShapes Go.ChangeAt Go.RowKit
set_option linter.unusedVariables false

theorem St.next_fine (s : St) : s.next.deep = s.deep ∧ s.next.left.length ≤ s.left.length := by
  unfold St.next; split
  · exact ⟨rfl, Nat.le_refl _⟩
  · exact ⟨rfl, by simp⟩
theorem chainLoop_fine {n : Nat} {part : Par} (hf : Fine n part) (xs : List (List UInt8)) : ∀ (k : Nat) (e : Ex) (s : St), s.left.length ≤ n → (chainLoop part xs k e s).2.deep = s.deep ∧ (chainLoop part xs k e s).2.left.length ≤ s.left.length
  | 0, e, s, h => ⟨rfl, Nat.le_refl _⟩
  | k + 1, e, s, h => by
    rw [chainLoop]
    have h1 := s.next_fine
    have h2 := hf s.next (by omega)
    split
    · have h3 := chainLoop_fine hf xs k (joinedL s.now e (part s.next).1) (part s.next).2 (by omega)
      exact ⟨by rw [h3.1, h2.1, h1.1], by omega⟩
    · exact ⟨rfl, Nat.le_refl _⟩
theorem chain_fine {n : Nat} {part : Par} (hf : Fine n part) (xs : List (List UInt8)) : Fine n (chainL part xs) := fun s h => by
  have h1 := hf s h
  have h2 := chainLoop_fine hf xs (part s).2.left.length (part s).1 (part s).2 (by omega)
  exact ⟨by unfold chainL; rw [h2.1, h1.1], by unfold chainL; omega⟩
theorem marks_of {w : World} {m : Nat} {xs : List (List UInt8)} (h : w.heap[m]? = some (.cells (xs.map fun x => Value.string ⟨x.toArray⟩).toArray 9 (0, 0))) : Marks w m xs := fun j x hj => by
  rw [Lib.cell_of_heap h]; simp [hj]

def termMarks : List (List UInt8) := [[42], [47], [37], [38], [60, 60], [62, 62]]
def sumMarks : List (List UInt8) := [[43], [45], [124], [94]]
def pTerm (u : Par) : Par := chainL u termMarks
def pSum (u : Par) : Par := chainL (pTerm u) sumMarks

set_option maxHeartbeats 1000000 in
set_option maxRecDepth 100000 in
theorem term_any {R g n : Nat} {part : Par} (hp : ParOk R g n 147 part) (hf : Fine n part) : ParOk R g n 146 (chainL part termMarks) := by
  intro s w hl hd h
  have HP := Lib.hid hp; have HF := Lib.hid hf; have HR := Lib.hid h
  have hRw := h.size
  clear hp hf h
  go_enter Tryz.func146, Tryz.ntmps146
  go_wp2_with (fail)
  generalize hW : (w.alloc (.cells #[.int .i64 0, .int .i64 0, .int .i64 0, .int .i64 0, .string ⟨#[]⟩, .int .i64 0, .slice none 0 0] 47)).alloc (.cells #[.string ⟨#[42]⟩, .string ⟨#[47]⟩, .string ⟨#[37]⟩, .string ⟨#[38]⟩, .string ⟨#[60, 60]⟩, .string ⟨#[62, 62]⟩] 9) = W
  have hg : w.grownBy W none := by rw [← hW]; exact grown_trans (grown_alloc _ _) (grown_alloc _ _)
  have hres : W.heap[w.heap.size]? = some (.cells zero7 47 (0, 0)) := by rw [← hW]; exact alloc_past _ _ _ _ (by simp) (alloc_at _ _ _ rfl)
  have hmk : Marks W (w.heap.size + 1) termMarks := by rw [← hW]; exact marks_of (alloc_at _ _ _ (by simp))
  have hsz : W.heap.size = w.heap.size + 2 := by rw [← hW]; simp
  clear hW
  have HG := Lib.hid hg; have HRES := Lib.hid hres; have HSZ := Lib.hid hsz; have HMK := Lib.hid hmk
  clear hg hres hsz hmk
  refine (chain_unary R g n part HP.out HF.out termMarks (by decide) (by decide) (w.heap.size + 1) s W hl hd (HR.out.more HG.out) HMK.out (by have := HSZ.out; omega) (by omega)).mono ?_
  rintro e w1 ⟨cs, rfl, hat, hw1, hr1⟩
  obtain ⟨k3, l3, c3, n3, m3, o3, a3, b3, d3, rfl⟩ := hat.cells
  have hz1 := hw1.size
  have hrs := hw1.keep HRES.out (by omega)
  obtain ⟨⟨z0, z1, z2, z3, z4, z5, z6⟩, f0, f1, f2, f3, f4, f5, f6⟩ := seven hrs
  have HAT := Lib.hid hat; have HW1 := Lib.hid hw1; have HR1 := Lib.hid hr1
  clear hat hw1 hr1 hrs
  unfold cells7
  go_wp2_with (fail)
  refine bodyPost_ret (v := .agg (cells7 k3 l3 c3 n3 m3 o3 (.slice a3 b3 d3))) (by simp [results, Tryz.results146, go_sem, cells7, z0, z1, z2, z3, z4, z5, z6]) rfl ?_
  refine ex_end (r := w.heap.size) ?_ HAT.out (fun q hq => by have : W.heap.size ≤ q := hq; have := HSZ.out; omega) (Nat.le_refl _) hRw ((went_none HG.out).trans HW1.out) HR1.out
  repeat (first | with_reducible (exact Sets.refl _ _) | with_reducible (refine Sets.set ?_ _ _))

set_option maxHeartbeats 1000000 in
set_option maxRecDepth 100000 in
theorem sum_any {R g n : Nat} {part : Par} (hp : ParOk R g n 146 part) (hf : Fine n part) : ParOk R g n 144 (chainL part sumMarks) := by
  intro s w hl hd h
  have HP := Lib.hid hp; have HF := Lib.hid hf; have HR := Lib.hid h
  have hRw := h.size
  clear hp hf h
  go_enter Tryz.func144, Tryz.ntmps144
  go_wp2_with (fail)
  generalize hW : (w.alloc (.cells #[.int .i64 0, .int .i64 0, .int .i64 0, .int .i64 0, .string ⟨#[]⟩, .int .i64 0, .slice none 0 0] 47)).alloc (.cells #[.string ⟨#[43]⟩, .string ⟨#[45]⟩, .string ⟨#[124]⟩, .string ⟨#[94]⟩] 9) = W
  have hg : w.grownBy W none := by rw [← hW]; exact grown_trans (grown_alloc _ _) (grown_alloc _ _)
  have hres : W.heap[w.heap.size]? = some (.cells zero7 47 (0, 0)) := by rw [← hW]; exact alloc_past _ _ _ _ (by simp) (alloc_at _ _ _ rfl)
  have hmk : Marks W (w.heap.size + 1) sumMarks := by rw [← hW]; exact marks_of (alloc_at _ _ _ (by simp))
  have hsz : W.heap.size = w.heap.size + 2 := by rw [← hW]; simp
  clear hW
  have HG := Lib.hid hg; have HRES := Lib.hid hres; have HSZ := Lib.hid hsz; have HMK := Lib.hid hmk
  clear hg hres hsz hmk
  refine (chain_term R g n part HP.out HF.out sumMarks (by decide) (by decide) (w.heap.size + 1) s W hl hd (HR.out.more HG.out) HMK.out (by have := HSZ.out; omega) (by omega)).mono ?_
  rintro e w1 ⟨cs, rfl, hat, hw1, hr1⟩
  obtain ⟨k3, l3, c3, n3, m3, o3, a3, b3, d3, rfl⟩ := hat.cells
  have hz1 := hw1.size
  have hrs := hw1.keep HRES.out (by omega)
  obtain ⟨⟨z0, z1, z2, z3, z4, z5, z6⟩, f0, f1, f2, f3, f4, f5, f6⟩ := seven hrs
  have HAT := Lib.hid hat; have HW1 := Lib.hid hw1; have HR1 := Lib.hid hr1
  clear hat hw1 hr1 hrs
  unfold cells7
  go_wp2_with (fail)
  refine bodyPost_ret (v := .agg (cells7 k3 l3 c3 n3 m3 o3 (.slice a3 b3 d3))) (by simp [results, Tryz.results144, go_sem, cells7, z0, z1, z2, z3, z4, z5, z6]) rfl ?_
  refine ex_end (r := w.heap.size) ?_ HAT.out (fun q hq => by have : W.heap.size ≤ q := hq; have := HSZ.out; omega) (Nat.le_refl _) hRw ((went_none HG.out).trans HW1.out) HR1.out
  repeat (first | with_reducible (exact Sets.refl _ _) | with_reducible (refine Sets.set ?_ _ _))
end Go.Proofs.YtaomlahphlemdaaGreatDoor
