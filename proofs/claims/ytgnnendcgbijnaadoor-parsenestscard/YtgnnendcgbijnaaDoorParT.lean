/-
  The parser: choices, over what a block is, and what stands behind else.
-/
import Derived.Test.YtgnnendcgbijnaaDoorParS
namespace Go.Proofs.YtgnnendcgbijnaaDoor
open Go.ChangeShapes Go.WideShapes Go.ChangeAt Go.RowKit
set_option linter.unusedVariables false

def elseL : List UInt8 := [101, 108, 115, 101]
def pChoice (ex : Par) (blk oth : St → List Sm × St) : ParS := fun s =>
  if (blk (ex s.next).2).2.sees [elseL] then (.mk 4 s.now.line s.now.col [] [(ex s.next).1] (blk (ex s.next).2).1 (oth (blk (ex s.next).2).2.next).1, (oth (blk (ex s.next).2).2.next).2)
  else (.mk 4 s.now.line s.now.col [] [(ex s.next).1] (blk (ex s.next).2).1 [], (blk (ex s.next).2).2)
/-- What otherwise promises: it needs room for a part more. -/
def OtherOk (R g n : Nat) (oth : St → List Sm × St) : Prop := ∀ (s : St) (w : World), Good s → s.left.length ≤ n → s.deep + 2 * s.left.length + 3 ≤ 300000 → Reads R g s w →
  Calls Tryd.prog 80 #[.pointer (some ⟨R, 0, none⟩)] w (BodyPost R g (oth s) w)
def GoodB (blk : St → List Sm × St) : Prop := ∀ s : St, Good s → Good (blk s).2
/-- A parser of lists that keeps how deep the reader is, and makes no tokens. -/
def FineB (n : Nat) (blk : St → List Sm × St) : Prop := ∀ s : St, s.left.length ≤ n → (blk s).2.deep = s.deep ∧ (blk s).2.left.length ≤ s.left.length

set_option maxHeartbeats 2000000 in
set_option maxRecDepth 100000 in
theorem choice_any {R g n : Nat} {part : Par} {blk oth : St → List Sm × St} (hp : ExprOk R g n part) (hb : BlockOk R g n 45 blk) (ho : OtherOk R g n oth) (hf : Fine n (pExpr part)) (hfb : FineB n blk) (hgp : GoodP (pExpr part)) (hgb : GoodB blk) (s : St) (w : World) (hgd : Good s) (hl : s.next.left.length ≤ n) (hd : s.next.deep + 2 * s.next.left.length + 1 ≤ 300000) (h : Reads R g s w) :
    Calls Tryd.prog 69 #[.pointer (some ⟨R, 0, none⟩)] w (SmPost R g (pChoice (pExpr part) blk oth s) w) := by
  have HP := Lib.hid hp; have HR := Lib.hid h; have HB := Lib.hid hb; have HO := Lib.hid ho; have hfx := hf s.next hl; have hfy := hfb (pExpr part s.next).2 (by omega)
  have hRw := h.size
  clear hp h hb hf ho hfb
  go_enter Tryd.func69, Tryd.ntmps69
  go_wp2_with (fail)
  refine (take_any R g s _ (HR.out.alloc _)).mono ?_
  rintro e w1 ⟨rfl, hw1, hr1⟩
  have hz1 := hw1.size
  simp at hz1
  have HL := Lib.hid (laidS_of (cs := cellsS 4 s.now.line s.now.col [] (.slice none 0 0) (.slice none 0 0) (.slice none 0 0)) hw1 hRw)
  have HR1 := Lib.hid hr1
  clear hw1 hr1
  unfold tokAgg
  go_wp2_with (fail)
  rw [field_at]
  simp only [Result.andThen]
  rw [Oper.upon_value]
  go_wp2_with (fail)
  refine (HP.out s.next _ hl hd (HR1.out.alloc _)).mono ?_
  rintro e w2 ⟨cs, rfl, hat, hw2, hr2⟩
  obtain ⟨k3, l3, c3, n3, m3, o3, a3, b3, d3, rfl⟩ := hat.cells
  have hz2 := hw2.size
  simp at hz2
  have hL2 := HL.out.went' hw2 hRw (by omega)
  have hbk2 : w2.heap[w1.heap.size]? = some (.cells (cellsS 4 s.now.line s.now.col [] (.slice none 0 0) (.slice none 0 0) (.slice none 0 0)) 45 (0, 0)) := hL2.blk
  obtain ⟨⟨x0, x1, x2, x3, x4, x5, x6⟩, f0, f1, f2, f3, f4, f5, f6⟩ := seven hbk2
  have HL2 := Lib.hid hL2; have HR2 := Lib.hid hr2; have HAT := Lib.hid hat
  have hlt2 : w1.heap.size < w2.heap.size := by omega
  clear hL2 hbk2 hw2 hr2 hat
  unfold cells7
  go_wp2_with (fail)
  refine (HB.out (pExpr part s.next).2 _ (hgp _ (St.next_good hgd)) (by omega) (by omega) (by repeat (first | with_reducible (refine Reads.alloc ?_ _) | with_reducible (refine Reads.set ?_ _ _ (by omega)) | with_reducible (exact HR2.out)))).mono ?_
  rintro e w4 ⟨v, rfl, hbody, hw4, hr4⟩
  obtain ⟨va, vk, vc, rfl⟩ := hbody.slice
  have hL4 := ((HL2.out.put 4 (.slice (some ⟨w2.heap.size, 0, none⟩) 1 1) (by omega) (by omega)).alloc (.cells (cells7 k3 l3 c3 n3 m3 o3 (.slice a3 b3 d3)) 51)).went' hw4 hRw (by omega)
  have hz4 := hw4.size
  simp at hz4
  have hkb : w4.heap[w2.heap.size]? = some (.cells (cells7 k3 l3 c3 n3 m3 o3 (.slice a3 b3 d3)) 51 (0, 0)) := hw4.keep (alloc_at _ _ _ (by simp)) (by omega)
  have hat4 : (pExpr part s.next).1.At w4 (fun q => w1.heap.size < q) (cells7 k3 l3 c3 n3 m3 o3 (.slice a3 b3 d3)) := by
    refine Ex.At.keep (fun q hq hlt => ?_) (fun q hq hlt o => ?_) _ _ HAT.out
    · have h9 : (w1.alloc _).heap.size ≤ q := hq
      simp at h9; omega
    · have h9 : (w1.alloc _).heap.size ≤ q := hq
      simp at h9
      rw [World.cell?_of_block (hw4.block q (by simp; omega) (by simp; omega)), World.cell?_of_block (Below.heap_alloc _ _ _ (by simp; omega)), World.cell?_of_block (Below.heap_setCell _ _ _ _ (by show q ≠ w1.heap.size; omega))]
  have hbk4 : w4.heap[w1.heap.size]? = some (.cells (cellsS 4 s.now.line s.now.col [] (.slice (some ⟨w2.heap.size, 0, none⟩) 1 1) (.slice none 0 0) (.slice none 0 0)) 45 (0, 0)) := hL4.blk
  clear x0 x1 x2 x3 x4 x5 x6 f0 f1 f2 f3 f4 f5 f6
  obtain ⟨⟨x0, x1, x2, x3, x4, x5, x6⟩, f0, f1, f2, f3, f4, f5, f6⟩ := seven hbk4
  obtain ⟨⟨z0, z1, z2, z3, z4, z5, z6⟩, h0, h1, h2, h3, h4, h5, h6⟩ := seven hL4.res
  have HL4 := Lib.hid hL4; have HR4 := Lib.hid hr4
  have HKID := Lib.hid (kids_one (S := fun q => w1.heap.size < q) (by omega) hkb hat4)
  have HBOD := Lib.hid (hbody.keep (w' := w4) (S' := fun q => w1.heap.size < q) (fun q hq _ => by have h9 : ((w2.setCell ⟨w1.heap.size, 4, none⟩ (.slice (some ⟨w2.heap.size, 0, none⟩) 1 1)).alloc (.cells (cells7 k3 l3 c3 n3 m3 o3 (.slice a3 b3 d3)) 51)).heap.size ≤ q := hq; simp at h9; omega) (fun _ _ _ _ => rfl))
  have hlt5 : w.heap.size < w4.heap.size := by omega
  have hlt6 : w1.heap.size < w4.heap.size := by omega
  clear hL4 hr4 hw4 hkb hat4 hbk4 hbody
  go_wp2_with (fail)
  refine (skip_any R g (blk (pExpr part s.next).2).2 elseL _ (HR4.out.set _ _ (by omega))).mono ?_
  rintro e w5 ⟨rfl, hw5, hr5⟩
  have hz5 := hw5.size
  simp at hz5
  have hL5 := (HL4.out.put 5 (.slice va vk vc) (by omega) (by omega)).went' hw5 hRw (by omega)
  have hkeep : ∀ q, w1.heap.size < q → q < w4.heap.size → ∀ o, w5.cell? ⟨q, o, none⟩ = w4.cell? ⟨q, o, none⟩ := fun q hq hlt o => by
    rw [World.cell?_of_block (hw5.block q (by simp; omega) (by simp; omega)), World.cell?_of_block (Below.heap_setCell _ _ _ _ (by show q ≠ w1.heap.size; omega))]
  have HK5 := Lib.hid (HKID.out.keep (w' := w5) (S' := fun q => w1.heap.size < q) (fun _ h _ => h) hkeep); have HB5 := Lib.hid (HBOD.out.keep (w' := w5) (S' := fun q => w1.heap.size < q) (fun _ h _ => h) hkeep)
  have hbk5 : w5.heap[w1.heap.size]? = some (.cells (cellsS 4 s.now.line s.now.col [] (.slice (some ⟨w2.heap.size, 0, none⟩) 1 1) (.slice va vk vc) (.slice none 0 0)) 45 (0, 0)) := hL5.blk
  clear x0 x1 x2 x3 x4 x5 x6 f0 f1 f2 f3 f4 f5 f6 z0 z1 z2 z3 z4 z5 z6 h0 h1 h2 h3 h4 h5 h6
  obtain ⟨⟨x0, x1, x2, x3, x4, x5, x6⟩, f0, f1, f2, f3, f4, f5, f6⟩ := seven hbk5
  obtain ⟨⟨z0, z1, z2, z3, z4, z5, z6⟩, h0, h1, h2, h3, h4, h5, h6⟩ := seven hL5.res
  have HL5 := Lib.hid hL5; have HR5 := Lib.hid hr5
  have hlt7 : w.heap.size < w5.heap.size := by omega
  have hlt8 : w1.heap.size < w5.heap.size := by omega
  have HRB := Lib.hid (HR4.out.set (b := w1.heap.size) 5 (.slice va vk vc) (by omega))
  clear hL5 hr5 hw5 hbk5 hkeep
  cases hs : (blk (pExpr part s.next).2).2.sees [elseL]
  · have HV := Lib.hid (show pChoice (pExpr part) blk oth s = (.mk 4 s.now.line s.now.col [] [(pExpr part s.next).1] (blk (pExpr part s.next).2).1 [], (blk (pExpr part s.next).2).2) by unfold pChoice; rw [if_neg (by rw [hs]; decide)])
    have HSK := Lib.hid (show (blk (pExpr part s.next).2).2.skip elseL = (blk (pExpr part s.next).2).2 by unfold St.skip; rw [hs]; rfl)
    clear hs
    go_wp2_with (fail)
    refine bodyPost_ret (v := .agg (cellsS 4 s.now.line s.now.col [] (.slice (some ⟨w2.heap.size, 0, none⟩) 1 1) (.slice va vk vc) (.slice none 0 0))) (by simp [results, Tryd.results69, go_sem, cellsS, z0, z1, z2, z3, z4, z5, z6]) rfl ?_
    rw [HV.out]
    refine sm_end (r := w.heap.size) (S := fun q => w1.heap.size < q) ?_ (sm_at HK5.out HB5.out (body_none none 0)) (fun q hq => ⟨by omega, by omega⟩) (Nat.le_refl _) hRw HL5.out.went (by rw [← HSK.out]; exact HR5.out)
    repeat (first | with_reducible (refine Sets.set ?_ _ _) | with_reducible (exact Sets.refl _ _))
  · have hnl := next_len HRB.out hs (by decide)
    have HV := Lib.hid (show pChoice (pExpr part) blk oth s = (.mk 4 s.now.line s.now.col [] [(pExpr part s.next).1] (blk (pExpr part s.next).2).1 (oth (blk (pExpr part s.next).2).2.next).1, (oth (blk (pExpr part s.next).2).2.next).2) by unfold pChoice; rw [if_pos hs])
    have HSK := Lib.hid (show (blk (pExpr part s.next).2).2.skip elseL = (blk (pExpr part s.next).2).2.next by unfold St.skip; rw [hs]; rfl)
    clear hs
    go_wp2_with (fail)
    refine (HO.out (blk (pExpr part s.next).2).2.next _ (St.next_good (hgb _ (hgp _ (St.next_good hgd)))) (by omega) (by omega) (by rw [← HSK.out]; exact HR5.out)).mono ?_
    rintro e w6 ⟨v, rfl, hels, hw6, hr6⟩
    obtain ⟨ea, ek, ec, rfl⟩ := hels.slice
    have hz6 := hw6.size
    have hL6 := HL5.out.went' hw6 hRw (by omega)
    have hkeep : ∀ q, w1.heap.size < q → q < w5.heap.size → ∀ o, w6.cell? ⟨q, o, none⟩ = w5.cell? ⟨q, o, none⟩ := fun q hq hlt o => World.cell?_of_block (hw6.block q hlt (by simp; omega))
    have HAT6 := Lib.hid (sm_at (does := 4) (line := s.now.line) (col := s.now.col) (name := []) (HK5.out.keep (w' := w6) (S' := fun q => w1.heap.size < q) (fun _ h _ => h) hkeep) (HB5.out.keep (w' := w6) (S' := fun q => w1.heap.size < q) (fun _ h _ => h) hkeep) (hels.keep (w' := w6) (S' := fun q => w1.heap.size < q) (fun q hq _ => by have h9 : w5.heap.size ≤ q := hq; omega) (fun _ _ _ _ => rfl)))
    have hbk6 : w6.heap[w1.heap.size]? = some (.cells (cellsS 4 s.now.line s.now.col [] (.slice (some ⟨w2.heap.size, 0, none⟩) 1 1) (.slice va vk vc) (.slice none 0 0)) 45 (0, 0)) := hL6.blk
    clear x0 x1 x2 x3 x4 x5 x6 f0 f1 f2 f3 f4 f5 f6 z0 z1 z2 z3 z4 z5 z6 h0 h1 h2 h3 h4 h5 h6
    obtain ⟨⟨x0, x1, x2, x3, x4, x5, x6⟩, f0, f1, f2, f3, f4, f5, f6⟩ := seven hbk6
    obtain ⟨⟨z0, z1, z2, z3, z4, z5, z6⟩, h0, h1, h2, h3, h4, h5, h6⟩ := seven hL6.res
    have HL6 := Lib.hid hL6; have HR6 := Lib.hid hr6
    have hlt9 : w.heap.size < w6.heap.size := by omega
    have hlt10 : w1.heap.size < w6.heap.size := by omega
    clear hL6 hr6 hw6 hels hkeep hbk6
    go_wp2_with (fail)
    refine bodyPost_ret (v := .agg (cellsS 4 s.now.line s.now.col [] (.slice (some ⟨w2.heap.size, 0, none⟩) 1 1) (.slice va vk vc) (.slice ea ek ec))) (by simp [results, Tryd.results69, go_sem, cellsS, z0, z1, z2, z3, z4, z5, z6]) rfl ?_
    rw [HV.out]
    refine sm_end2 (r := w.heap.size) (b := w1.heap.size) (S := fun q => w1.heap.size < q) ?_ HAT6.out (fun q hq => ⟨by omega, by omega, by omega⟩) (Nat.le_refl _) (by omega) hRw (by omega) HL6.out.went HR6.out
    repeat (first | with_reducible (refine Sets2.set ?_ _ _) | with_reducible (refine Sets2.set' ?_ _ _) | with_reducible (exact Sets2.refl _ _ _))
end Go.Proofs.YtgnnendcgbijnaaDoor
