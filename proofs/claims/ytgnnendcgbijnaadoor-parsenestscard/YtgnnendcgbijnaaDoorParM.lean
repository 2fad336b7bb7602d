/-
  The parser: what a name begins.
-/
import Derived.Test.YtgnnendcgbijnaaDoorParL
namespace Go.Proofs.YtgnnendcgbijnaaDoor
open Go.ChangeShapes Go.WideShapes Go.ChangeAt Go.RowKit
set_option linter.unusedVariables false

def pNamed (ex : Par) (t : Tok) : Par := fun s =>
  if s.sees [[91]] then (.mk 4 t.line t.col 0 t.text 0 [(ex s.next).1], (ex s.next).2.must [93])
  else if s.sees [[40]] then
    if s.next.sees [[41]] then (.mk 5 t.line t.col 0 t.text 0 [], s.next.must [41])
    else (.mk 5 t.line t.col 0 t.text 0 (pArgs ex s.next).1, (pArgs ex s.next).2.must [41])
  else (.mk 3 t.line t.col 0 t.text 0 [], s)
theorem St.must_fine (s : St) (x : List UInt8) : (s.must x).deep = s.deep ∧ (s.must x).left.length ≤ s.left.length := by
  unfold St.must; split
  · exact s.next_fine
  · exact s.fail_fine _ _ _
theorem named_fine {n : Nat} {ex : Par} (hf : Fine n ex) (t : Tok) : Fine n (pNamed ex t) := fun s h => by
  have h1 := s.next_fine
  have h2 := hf s.next (by omega)
  have h3 := (ex s.next).2.must_fine [93]
  have h4 := args_fine hf s.next (by omega)
  have h5 := (pArgs ex s.next).2.must_fine [41]
  have h6 := s.next.must_fine [41]
  unfold pNamed
  split
  · exact ⟨by simp only; rw [h3.1, h2.1, h1.1], by simp only; omega⟩
  · split
    · split
      · exact ⟨by simp only; rw [h6.1, h1.1], by simp only; omega⟩
      · exact ⟨by simp only; rw [h5.1, h4.1, h1.1], by simp only; omega⟩
    · exact ⟨rfl, Nat.le_refl _⟩

/-- What named has laid at its beginning: the answer's place, the expression under way. -/
structure Laid3 (R r b : Nat) (ce : Array Value) (w W : World) : Prop where
  went : Went R w W
  res : W.heap[r]? = some (.cells zero7 51 (0, 0))
  blk : W.heap[b]? = some (.cells ce 51 (0, 0))
theorem Laid3.went' {R r b : Nat} {ce : Array Value} {w W W' : World} (h : Laid3 R r b ce w W) (hw : Went R W W') (hr : R < r) (hb : R < b) : Laid3 R r b ce w W' :=
  ⟨h.went.trans hw, hw.keep h.res (by omega), hw.keep h.blk (by omega)⟩

theorem Laid3.put {R r b : Nat} {ce : Array Value} {w W : World} (h : Laid3 R r b ce w W) (j : Nat) (v : Value) (hrb : r < b) (hw : w.heap.size ≤ b) : Laid3 R r b (ce.setIfInBounds j v) w (W.setCell ⟨b, j, none⟩ v) :=
  ⟨went_new h.went j v hw, (Below.heap_setCell _ _ _ _ (by show r ≠ b; omega)).trans h.res, set_block _ _ _ _ _ _ h.blk⟩
theorem Laid3.alloc {R r b : Nat} {ce : Array Value} {w W : World} (h : Laid3 R r b ce w W) (o : Obj) : Laid3 R r b ce w (W.alloc o) :=
  ⟨went_alloc h.went o, alloc_past _ _ _ _ (Array.getElem?_eq_some_iff.1 h.res).1 h.res, alloc_past _ _ _ _ (Array.getElem?_eq_some_iff.1 h.blk).1 h.blk⟩
theorem kids_slice {w : World} {S : Nat → Prop} {es : List Ex} {v : Value} (h : KidsAt w S es v) : ∃ a k c, v = .slice a k c := by
  rcases h with ⟨_, a, cap, rfl⟩ | ⟨_, g, o, cap, rfl, _⟩ <;> exact ⟨_, _, _, rfl⟩
theorem add1_ne (a : Nat) : a + 1 ≠ a := by omega

set_option maxHeartbeats 2000000 in
set_option maxRecDepth 100000 in
theorem named_any {R g n : Nat} {part : Par} (hp : ExprOk R g n part) (hf : Fine n (pExpr part)) (t : Tok) (s : St) (w : World) (hl : s.left.length ≤ n) (hd : s.deep + 2 * s.left.length ≤ 300000) (h : Reads R g s w) :
    Calls Tryd.prog 95 #[.pointer (some ⟨R, 0, none⟩), tokAgg t] w (ExPost R g (pNamed (pExpr part) t s) w) := by
  obtain ⟨kd, tx, nm, ln, cl⟩ := t
  have HP := Lib.hid hp; have HF := Lib.hid hf; have HR := Lib.hid h
  have hRw := h.size
  clear hp hf h
  unfold tokAgg
  simp only
  go_enter Tryd.func95, Tryd.ntmps95
  go_wp2_with (fail)
  generalize hW : ((w.alloc (.cells #[.int .i64 kd, .string ⟨tx.toArray⟩, .int .i64 nm, .int .i64 ln, .int .i64 cl] 68)).alloc (.cells #[.int .i64 0, .int .i64 0, .int .i64 0, .int .i64 0, .string ⟨#[]⟩, .int .i64 0, .slice none 0 0] 51)).alloc (.cells #[.int .i64 3, .int .i64 ln, .int .i64 cl, .int .i64 0, .string ⟨tx.toArray⟩, .int .i64 0, .slice none 0 0] 51) = W
  have hg : w.grownBy W none := by rw [← hW]; exact grown_trans (grown_trans (grown_alloc _ _) (grown_alloc _ _)) (grown_alloc _ _)
  have hsW : W.heap.size = w.heap.size + 3 := by rw [← hW]; simp
  have hL : Laid3 R (w.heap.size + 1) (w.heap.size + 1 + 1) (cells7 3 ln cl 0 tx 0 (.slice none 0 0)) w W := by
    refine ⟨went_none hg, ?_, ?_⟩
    · rw [← hW]; exact alloc_past _ _ _ _ (by simp) (alloc_at _ _ _ (by simp))
    · rw [← hW]; exact alloc_at _ _ _ (by simp)
  clear hW
  have HL := Lib.hid hL; have HRW := Lib.hid (HR.out.more hg)
  clear hL hg
  refine (skip_any R g s [91] _ HRW.out).mono ?_
  rintro e w1 ⟨rfl, hw1, hr1⟩
  have hz1 := hw1.size
  have hL1 := HL.out.went' hw1 (by omega) (by omega)
  obtain ⟨⟨x0, x1, x2, x3, x4, x5, x6⟩, f0, f1, f2, f3, f4, f5, f6⟩ := seven hL1.blk
  obtain ⟨⟨z0, z1, z2, z3, z4, z5, z6⟩, h0, h1, h2, h3, h4, h5, h6⟩ := seven hL1.res
  have HL1 := Lib.hid hL1; have HR1 := Lib.hid hr1
  have hlt1 : w.heap.size + 1 < w1.heap.size := by omega
  have hlt2 : w.heap.size + 1 + 1 < w1.heap.size := by omega
  clear hL1 hr1 hw1
  cases hs : s.sees [[91]]
  · have HSK := Lib.hid (show s.skip [91] = s by unfold St.skip; rw [hs]; rfl)
    have HS1 := Lib.hid hs
    clear hs
    go_wp2_with (fail)
    refine (skip_any R g s [40] _ (by rw [← HSK.out]; exact HR1.out)).mono ?_
    rintro e w2 ⟨rfl, hw2, hr2⟩
    have hz2 := hw2.size
    have hL2 := HL1.out.went' hw2 (by omega) (by omega)
    clear x0 x1 x2 x3 x4 x5 x6 f0 f1 f2 f3 f4 f5 f6 z0 z1 z2 z3 z4 z5 z6 h0 h1 h2 h3 h4 h5 h6
    obtain ⟨⟨x0, x1, x2, x3, x4, x5, x6⟩, f0, f1, f2, f3, f4, f5, f6⟩ := seven hL2.blk
    obtain ⟨⟨z0, z1, z2, z3, z4, z5, z6⟩, h0, h1, h2, h3, h4, h5, h6⟩ := seven hL2.res
    have HL2 := Lib.hid hL2; have HR2 := Lib.hid hr2
    have hlt3 : w.heap.size + 1 < w2.heap.size := by omega
    have hlt4 : w.heap.size + 1 + 1 < w2.heap.size := by omega
    clear hL2 hr2 hw2
    cases hs : s.sees [[40]]
    · have HV := Lib.hid (show pNamed (pExpr part) ⟨kd, tx, nm, ln, cl⟩ s = (.mk 3 ln cl 0 tx 0 [], s) by unfold pNamed; rw [if_neg (by rw [HS1.out]; decide), if_neg (by rw [hs]; decide)])
      have HSK2 := Lib.hid (show s.skip [40] = s by unfold St.skip; rw [hs]; rfl)
      clear hs
      go_wp2_with (fail)
      refine bodyPost_ret (v := .agg (cells7 3 ln cl 0 tx 0 (.slice none 0 0))) (by simp [results, Tryd.results95, go_sem, cells7, z0, z1, z2, z3, z4, z5, z6]) rfl ?_
      rw [HV.out]
      refine ex_end (r := w.heap.size + 1) (S := fun q => w.heap.size + 1 + 1 < q) ?_ (at_none 3 ln cl 0 tx 0 in0 in0 none 0) (fun q hq => ⟨by omega, by omega⟩) (by omega) (by omega) HL2.out.went (by rw [← HSK2.out]; exact HR2.out)
      repeat (first | with_reducible (refine Sets.set ?_ _ _) | with_reducible (exact Sets.refl _ _))
    · have hnl := next_len HRW.out hs (by decide)
      have HSK2 := Lib.hid (show s.skip [40] = s.next by unfold St.skip; rw [hs]; rfl)
      have HS2 := Lib.hid hs
      clear hs
      go_wp2_with (fail)
      have hr3 : Reads R g s.next ((w2.setCell ⟨w.heap.size + 1 + 1, 0, none⟩ (.int .i64 5)).alloc (.cells #[.string ⟨#[41]⟩] 9)) := by rw [← HSK2.out]; exact (HR2.out.set _ _ (by omega)).alloc _
      have hL3 := (HL2.out.put 0 (.int .i64 5) (by omega) (by omega)).alloc (.cells #[.string ⟨#[41]⟩] 9)
      have hmk : Marks ((w2.setCell ⟨w.heap.size + 1 + 1, 0, none⟩ (.int .i64 5)).alloc (.cells #[.string ⟨#[41]⟩] 9)) w2.heap.size [[41]] := marks_of (alloc_at _ _ _ (by simp))
      refine (sees_any R g s.next w2.heap.size 1 [[41]] (by decide) _ hr3 hmk (by simp)).mono ?_
      rintro e w3 ⟨rfl, hg3⟩
      have hz3 := hg3.size
      simp at hz3
      have hL3' := hL3.went' (went_none hg3) (by omega) (by omega)
      clear x0 x1 x2 x3 x4 x5 x6 f0 f1 f2 f3 f4 f5 f6 z0 z1 z2 z3 z4 z5 z6 h0 h1 h2 h3 h4 h5 h6
      have hbk3 : w3.heap[w.heap.size + 1 + 1]? = some (.cells (cells7 5 ln cl 0 tx 0 (.slice none 0 0)) 51 (0, 0)) := hL3'.blk
      obtain ⟨⟨x0, x1, x2, x3, x4, x5, x6⟩, f0, f1, f2, f3, f4, f5, f6⟩ := seven hbk3
      obtain ⟨⟨z0, z1, z2, z3, z4, z5, z6⟩, h0, h1, h2, h3, h4, h5, h6⟩ := seven hL3'.res
      have HL3 := Lib.hid hL3'; have HR3 := Lib.hid (hr3.more hg3)
      have hlt5 : w.heap.size + 1 < w3.heap.size := by omega
      have hlt6 : w.heap.size + 1 + 1 < w3.heap.size := by omega
      clear hL3 hL3' hr3 hmk hg3 hbk3
      cases hs : s.next.sees [[41]]
      · have HV := Lib.hid (show pNamed (pExpr part) ⟨kd, tx, nm, ln, cl⟩ s = (.mk 5 ln cl 0 tx 0 (pArgs (pExpr part) s.next).1, (pArgs (pExpr part) s.next).2.must [41]) by unfold pNamed; rw [if_neg (by rw [HS1.out]; decide), if_pos HS2.out, if_neg (by rw [hs]; decide)])
        clear hs
        go_wp2_with (fail)
        refine (args_any HP.out HF.out s.next _ (by omega) (by omega) HR3.out).mono ?_
        rintro e w4 ⟨v, rfl, hkid, hw4, hr4⟩
        obtain ⟨va, vk, vc, rfl⟩ := kids_slice hkid
        have hz4 := hw4.size
        have hL4 := HL3.out.went' hw4 (by omega) (by omega)
        clear x0 x1 x2 x3 x4 x5 x6 f0 f1 f2 f3 f4 f5 f6 z0 z1 z2 z3 z4 z5 z6 h0 h1 h2 h3 h4 h5 h6
        have hbk4 : w4.heap[w.heap.size + 1 + 1]? = some (.cells (cells7 5 ln cl 0 tx 0 (.slice none 0 0)) 51 (0, 0)) := hL4.blk
        obtain ⟨⟨x0, x1, x2, x3, x4, x5, x6⟩, f0, f1, f2, f3, f4, f5, f6⟩ := seven hbk4
        have HL4 := Lib.hid hL4; have HR4 := Lib.hid hr4; have HKID := Lib.hid hkid
        have hlt7 : w.heap.size + 1 + 1 < w4.heap.size := by omega
        clear hL4 hr4 hw4 hbk4 hkid
        go_wp2_with (fail)
        refine (must_any R g (pArgs (pExpr part) s.next).2 [41] _ (HR4.out.set _ _ (by omega))).mono ?_
        rintro e w5 ⟨rfl, hw5, hr5⟩
        have hz5 := hw5.size
        simp at hz5
        have hL5 := (HL4.out.put 6 (.slice va vk vc) (by omega) (by omega)).went' hw5 (by omega) (by omega)
        have hkid5 : KidsAt w5 (fun q => w.heap.size + 1 + 1 < q) (pArgs (pExpr part) s.next).1 (.slice va vk vc) := by
          refine HKID.out.keep (fun q hq hlt => by have : w3.heap.size ≤ q := hq; omega) (fun q hq hlt o => ?_)
          have h9 : w3.heap.size ≤ q := hq
          rw [World.cell?_of_block (hw5.block q (by simp; omega) (by simp; omega)), World.cell?_of_block (Below.heap_setCell _ _ _ _ (by show q ≠ w.heap.size + 1 + 1; omega))]
        clear x0 x1 x2 x3 x4 x5 x6 f0 f1 f2 f3 f4 f5 f6
        have hbk5 : w5.heap[w.heap.size + 1 + 1]? = some (.cells (cells7 5 ln cl 0 tx 0 (.slice va vk vc)) 51 (0, 0)) := hL5.blk
        obtain ⟨⟨x0, x1, x2, x3, x4, x5, x6⟩, f0, f1, f2, f3, f4, f5, f6⟩ := seven hbk5
        obtain ⟨⟨z0, z1, z2, z3, z4, z5, z6⟩, h0, h1, h2, h3, h4, h5, h6⟩ := seven hL5.res
        have HL5 := Lib.hid hL5; have HR5 := Lib.hid hr5
        have HAT5 := Lib.hid (at_kids 5 ln cl 0 tx 0 in0 in0 hkid5)
        have hlt8 : w.heap.size + 1 < w5.heap.size := by omega
        have hlt9 : w.heap.size + 1 + 1 < w5.heap.size := by omega
        clear hL5 hr5 hw5 hkid5 hbk5
        go_wp2_with (fail)
        refine bodyPost_ret (v := .agg (cells7 5 ln cl 0 tx 0 (.slice va vk vc))) (by simp [results, Tryd.results95, go_sem, cells7, z0, z1, z2, z3, z4, z5, z6]) rfl ?_
        rw [HV.out]
        refine ex_end (r := w.heap.size + 1) (S := fun q => w.heap.size + 1 + 1 < q) ?_ HAT5.out (fun q hq => ⟨by omega, by omega⟩) (by omega) (by omega) HL5.out.went HR5.out
        repeat (first | with_reducible (refine Sets.set ?_ _ _) | with_reducible (exact Sets.refl _ _))
      · have HV := Lib.hid (show pNamed (pExpr part) ⟨kd, tx, nm, ln, cl⟩ s = (.mk 5 ln cl 0 tx 0 [], s.next.must [41]) by unfold pNamed; rw [if_neg (by rw [HS1.out]; decide), if_pos HS2.out, if_pos hs])
        clear hs
        go_wp2_with (fail)
        refine (must_any R g s.next [41] _ HR3.out).mono ?_
        rintro e w4 ⟨rfl, hw4, hr4⟩
        have hz4 := hw4.size
        have hL4 := HL3.out.went' hw4 (by omega) (by omega)
        clear x0 x1 x2 x3 x4 x5 x6 f0 f1 f2 f3 f4 f5 f6 z0 z1 z2 z3 z4 z5 z6 h0 h1 h2 h3 h4 h5 h6
        have hbk4 : w4.heap[w.heap.size + 1 + 1]? = some (.cells (cells7 5 ln cl 0 tx 0 (.slice none 0 0)) 51 (0, 0)) := hL4.blk
        obtain ⟨⟨x0, x1, x2, x3, x4, x5, x6⟩, f0, f1, f2, f3, f4, f5, f6⟩ := seven hbk4
        obtain ⟨⟨z0, z1, z2, z3, z4, z5, z6⟩, h0, h1, h2, h3, h4, h5, h6⟩ := seven hL4.res
        have HL4 := Lib.hid hL4; have HR4 := Lib.hid hr4
        have hlt7 : w.heap.size + 1 < w4.heap.size := by omega
        have hlt8 : w.heap.size + 1 + 1 < w4.heap.size := by omega
        clear hL4 hr4 hw4 hbk4
        go_wp2_with (fail)
        refine bodyPost_ret (v := .agg (cells7 5 ln cl 0 tx 0 (.slice none 0 0))) (by simp [results, Tryd.results95, go_sem, cells7, z0, z1, z2, z3, z4, z5, z6]) rfl ?_
        rw [HV.out]
        refine ex_end (r := w.heap.size + 1) (S := fun q => w.heap.size + 1 + 1 < q) ?_ (at_none 5 ln cl 0 tx 0 in0 in0 none 0) (fun q hq => ⟨by omega, by omega⟩) (by omega) (by omega) HL4.out.went HR4.out
        repeat (first | with_reducible (refine Sets.set ?_ _ _) | with_reducible (exact Sets.refl _ _))
  · have hnl := next_len HRW.out hs (by decide)
    have HSK := Lib.hid (show s.skip [91] = s.next by unfold St.skip; rw [hs]; rfl)
    have HV := Lib.hid (show pNamed (pExpr part) ⟨kd, tx, nm, ln, cl⟩ s = (.mk 4 ln cl 0 tx 0 [(pExpr part s.next).1], (pExpr part s.next).2.must [93]) by unfold pNamed; rw [if_pos hs])
    clear hs
    go_wp2_with (fail)
    have hr1' : Reads R g s.next (w1.setCell ⟨w.heap.size + 1 + 1, 0, none⟩ (.int .i64 4)) := by rw [← HSK.out]; exact HR1.out.set _ _ (by omega)
    refine (HP.out s.next _ (by omega) (by omega) hr1').mono ?_
    clear hr1'
    rintro e w2 ⟨cs, rfl, hat, hw2, hr2⟩
    obtain ⟨k3, l3, c3, n3, m3, o3, a3, b3, d3, rfl⟩ := hat.cells
    have hz2 := hw2.size
    simp at hz2
    have hL2 := (HL1.out.put 0 (.int .i64 4) (by omega) (by omega)).went' hw2 (by omega) (by omega)
    clear x0 x1 x2 x3 x4 x5 x6 f0 f1 f2 f3 f4 f5 f6 z0 z1 z2 z3 z4 z5 z6 h0 h1 h2 h3 h4 h5 h6
    have hbk2 : w2.heap[w.heap.size + 1 + 1]? = some (.cells (cells7 4 ln cl 0 tx 0 (.slice none 0 0)) 51 (0, 0)) := hL2.blk
    obtain ⟨⟨x0, x1, x2, x3, x4, x5, x6⟩, f0, f1, f2, f3, f4, f5, f6⟩ := seven hbk2
    have HL2 := Lib.hid hL2; have HR2 := Lib.hid hr2; have HAT := Lib.hid hat
    have hlt3 : w.heap.size + 1 + 1 < w2.heap.size := by omega
    clear hL2 hr2 hw2 hat hbk2
    unfold cells7
    go_wp2_with (fail)
    refine (must_any R g (pExpr part s.next).2 [93] _ (by repeat (first | with_reducible (refine Reads.alloc ?_ _) | with_reducible (refine Reads.set ?_ _ _ (by omega)) | with_reducible (exact HR2.out)))).mono ?_
    rintro e w4 ⟨rfl, hw4, hr4⟩
    have hL4 := ((HL2.out.put 6 (.slice (some ⟨w2.heap.size, 0, none⟩) 1 1) (by omega) (by omega)).alloc (.cells (cells7 k3 l3 c3 n3 m3 o3 (.slice a3 b3 d3)) 51)).went' hw4 (by omega) (by omega)
    have hz4 := hw4.size
    simp at hz4
    have hkb : w4.heap[w2.heap.size]? = some (.cells (cells7 k3 l3 c3 n3 m3 o3 (.slice a3 b3 d3)) 51 (0, 0)) := hw4.keep (alloc_at _ _ _ (by simp)) (by omega)
    have hat4 : (pExpr part s.next).1.At w4 (fun q => w.heap.size + 1 + 1 < q) (cells7 k3 l3 c3 n3 m3 o3 (.slice a3 b3 d3)) := by
      refine Ex.At.keep (fun q hq hlt => ?_) (fun q hq hlt o => ?_) _ _ HAT.out
      · have : (w1.setCell ⟨w.heap.size + 1 + 1, 0, none⟩ (.int .i64 4)).heap.size ≤ q := hq
        simp at this; omega
      · have h9 : (w1.setCell ⟨w.heap.size + 1 + 1, 0, none⟩ (.int .i64 4)).heap.size ≤ q := hq
        simp at h9
        rw [World.cell?_of_block (hw4.block q (by simp; omega) (by simp; omega)), World.cell?_of_block (Below.heap_alloc _ _ _ (by simp; omega)), World.cell?_of_block (Below.heap_setCell _ _ _ _ (by show q ≠ w.heap.size + 1 + 1; omega))]
    have hbk4 : w4.heap[w.heap.size + 1 + 1]? = some (.cells (cells7 4 ln cl 0 tx 0 (.slice (some ⟨w2.heap.size, 0, none⟩) 1 1)) 51 (0, 0)) := hL4.blk
    clear x0 x1 x2 x3 x4 x5 x6 f0 f1 f2 f3 f4 f5 f6
    obtain ⟨⟨x0, x1, x2, x3, x4, x5, x6⟩, f0, f1, f2, f3, f4, f5, f6⟩ := seven hbk4
    obtain ⟨⟨z0, z1, z2, z3, z4, z5, z6⟩, h0, h1, h2, h3, h4, h5, h6⟩ := seven hL4.res
    have HL4 := Lib.hid hL4; have HR4 := Lib.hid hr4
    have HAT4 := Lib.hid (at_one (kind := 4) (line := ln) (col := cl) (num := 0) (name := tx) (op := 0) (show w.heap.size + 1 + 1 < w2.heap.size by omega) hkb hat4 in0 in0 1 (Nat.le_refl _) (.inr rfl))
    have hlt5 : w.heap.size + 1 < w4.heap.size := by omega
    have hlt6 : w.heap.size + 1 + 1 < w4.heap.size := by omega
    clear hL4 hr4 hw4 hkb hat4 hbk4
    go_wp2_with (fail)
    refine bodyPost_ret (v := .agg (cells7 4 ln cl 0 tx 0 (.slice (some ⟨w2.heap.size, 0, none⟩) 1 1))) (by simp [results, Tryd.results95, go_sem, cells7, z0, z1, z2, z3, z4, z5, z6]) rfl ?_
    rw [HV.out]
    refine ex_end (r := w.heap.size + 1) (S := fun q => w.heap.size + 1 + 1 < q) ?_ HAT4.out (fun q hq => ⟨by omega, by omega⟩) (by omega) (by omega) HL4.out.went HR4.out
    repeat (first | with_reducible (refine Sets.set ?_ _ _) | with_reducible (exact Sets.refl _ _))
end Go.Proofs.YtgnnendcgbijnaaDoor
