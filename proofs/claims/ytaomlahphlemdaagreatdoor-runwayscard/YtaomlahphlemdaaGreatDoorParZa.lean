/-
  The parser: a statement that begins with an expression: a name is set.
-/
import Derived.Test.YtaomlahphlemdaaGreatDoorParZ
namespace Go.Proofs.YtaomlahphlemdaaGreatDoor
open Go.ChangeShapes Go.WideShapes Go.ChangeAt Go.RowKit
set_option linter.unusedVariables false

/-- The expression behind the =, read in a region that draws its order. -/
theorem plain_in {R g n r b c : Nat} {part : Par} {cs ce : Array Value} {e : Ex} {s : St} {w W : World} (hp : ExprOk R g n part) (hl : s.left.length ≤ n) (hd : s.deep + 2 * s.left.length + 1 ≤ 300000) (hL : LaidP R r b c cs ce w W) (hr : R < r) (hrb : r < b) (hbc : b < c) (hat : e.At W (fun q => b < q ∧ q ≠ c) ce) (hrd : Reads R g s W) :
    ∀ wx, W.grownBy wx none → Calls Tryz.prog 131 #[.pointer (some ⟨R, 0, none⟩)] wx (fun e' w9 => ∃ k l c1 n m o x y z, e' = .returned (.agg (cells7 k l c1 n m o (.slice x y z))) ∧ (pExpr part s).1.At w9 (fun q => b < q ∧ q ≠ c) (cells7 k l c1 n m o (.slice x y z)) ∧ LaidP R r b c cs ce w w9 ∧ e.At w9 (fun q => b < q ∧ q ≠ c) ce ∧ Reads R g (pExpr part s).2 w9 ∧ W.heap.size ≤ w9.heap.size) := by
  intro wx hg
  refine (hp s wx hl hd (hrd.more hg)).mono ?_
  rintro e' w9 ⟨cs9, rfl, hat9, hw9, hr9⟩
  obtain ⟨k, l, c1, n, m, o, x, y, z, rfl⟩ := hat9.cells
  have hwt : Went R W w9 := (went_none hg).trans hw9
  have hcW := (Array.getElem?_eq_some_iff.1 hL.box).1
  have hz := hg.size
  refine ⟨k, l, c1, n, m, o, x, y, z, rfl, ?_, ⟨hL.laid.went' hwt hr (by omega), hwt.keep hL.box (by omega)⟩, ?_, hr9, hwt.size⟩
  · exact Ex.At.keep (fun q hq _ => by have h9 : wx.heap.size ≤ q := hq; exact ⟨by omega, by omega⟩) (fun _ _ _ _ => rfl) _ _ hat9
  · exact Ex.At.keep (fun q hq _ => hq) (fun q hq hlt o => World.cell?_of_block (hwt.block q hlt (by simp; omega))) _ _ hat

theorem LaidP.went' {R r b c : Nat} {cs ce : Array Value} {w W W' : World} (h : LaidP R r b c cs ce w W) (hw : Went R W W') (hr : R < r) (hb : R < b) (hc : R < c) : LaidP R r b c cs ce w W' := ⟨h.laid.went' hw hr hb, hw.keep h.box (by omega)⟩
theorem at_kind {w : World} {S : Nat → Prop} {e : Ex} {k l c n o : Int} {m : List UInt8} {v : Value} (h : e.At w S (cells7 k l c n m o v)) : e.kind = k ∧ e.name = m := by
  cases e with
  | mk kd ln cl nm nme op ks =>
    unfold Ex.At at h
    obtain ⟨_, _, kv, he, _⟩ := h
    simp [cells7] at he
    exact ⟨he.1.symm, by simp [Ex.name, he.2.2.2.2.1]⟩

set_option maxHeartbeats 2000000 in
set_option maxRecDepth 100000 in
theorem plain_set {R g n : Nat} {part : Par} (hp : ExprOk R g n part) (hf : Fine n (pExpr part)) (s : St) (w : World) (hl : s.left.length ≤ n) (hd : s.deep + 2 * s.left.length + 1 ≤ 300000) (h : Reads R g s w) (hk : (pExpr part s).1.kind = 3) (hs : (pExpr part s).2.sees [[61]] = true) :
    Calls Tryz.prog 120 #[.pointer (some ⟨R, 0, none⟩)] w (SmPost R g (pPlain (pExpr part) s) w) := by
  have HV := Lib.hid (show pPlain (pExpr part) s = (.mk 2 s.now.line s.now.col (pExpr part s).1.name [(pExpr part (pExpr part s).2.next).1] [] [], (pExpr part (pExpr part s).2.next).2.must [59]) by unfold pPlain; rw [if_neg (by rw [hk]; decide), if_pos ⟨hk, hs⟩])
  have HP := Lib.hid hp; have HR := Lib.hid h; have HK := Lib.hid hk; have HSK := Lib.hid (show (pExpr part s).2.skip [61] = (pExpr part s).2.next by unfold St.skip; rw [hs]; rfl)
  have hRw := h.size
  have hfx := hf s hl
  have hfn := (pExpr part s).2.next_fine
  have HSE := Lib.hid hs
  clear hp h hk hf hs
  go_enter Tryz.func120, Tryz.ntmps120
  go_wp2_with (fail)
  refine (now_any R g s _ (HR.out.alloc _)).mono ?_
  rintro e w1 ⟨rfl, hg1⟩
  have HG1 := Lib.hid hg1
  have HRW := Lib.hid (((HR.out.alloc _).more hg1).alloc (.cells (cellsS 0 s.now.line s.now.col [] (.slice none 0 0) (.slice none 0 0) (.slice none 0 0)) 55))
  clear hg1
  unfold tokAgg
  go_wp2_with (fail)
  rw [field_at]
  simp only [Result.andThen]
  rw [Oper.upon_value]
  go_wp2_with (fail)
  refine (HP.out s _ hl hd HRW.out).mono ?_
  rintro e w2 ⟨cs, rfl, hat, hw2, hr2⟩
  obtain ⟨hlt1, hlt2, hL, hat', hr'⟩ := plain_pre HG1.out hRw hw2 hat hr2
  obtain ⟨k3, l3, c3, n3, m3, o3, a3, b3, d3, rfl⟩ := hat.cells
  obtain ⟨hk3, hm3⟩ := at_kind hat
  obtain rfl : k3 = 3 := by rw [← hk3]; exact HK.out
  have HM := Lib.hid hm3
  clear hat hw2 hr2 hk3 hm3
  unfold cells7 at hL
  unfold cells7
  go_wp2_with (fail)
  generalize hW : w2.alloc (.cells #[.int .i64 3, .int .i64 l3, .int .i64 c3, .int .i64 n3, .string ⟨m3.toArray⟩, .int .i64 o3, .slice a3 b3 d3] 47) = W at hL
  have hat2 : (pExpr part s).1.At W (fun q => w1.heap.size < q ∧ q ≠ w2.heap.size) (cells7 3 l3 c3 n3 m3 o3 (.slice a3 b3 d3)) := by rw [← hW]; exact hat'
  have hrd2 : Reads R g (pExpr part s).2 W := by rw [← hW]; exact hr'
  have hsW : W.heap.size = w2.heap.size + 1 := by rw [← hW]; simp
  clear hW hat' hr'
  obtain ⟨⟨x0, x1, x2, x3, x4, x5, x6⟩, f0, f1, f2, f3, f4, f5, f6⟩ := seven hL.laid.blk
  obtain ⟨⟨y0, y1, y2, y3, y4, y5, y6⟩, g0, g1, g2, g3, g4, g5, g6⟩ := seven hL.box
  have HL := Lib.hid hL; have HAT := Lib.hid hat2; have HR2 := Lib.hid hrd2
  have hlt3 : w1.heap.size < W.heap.size := by omega
  have hlt4 : w2.heap.size < W.heap.size := by omega
  clear hL hat2 hrd2
  go_wp2_with (fail)
  refine (skip_any R g (pExpr part s).2 [61] _ HR2.out).mono ?_
  rintro e w3 ⟨rfl, hw3, hr3⟩
  rw [HSE.out]
  have hz3 := hw3.size
  have hL3 := HL.out.went' hw3 hRw (by omega) (by omega)
  have hat3 : (pExpr part s).1.At w3 (fun q => w1.heap.size < q ∧ q ≠ w2.heap.size) (cells7 3 l3 c3 n3 m3 o3 (.slice a3 b3 d3)) := Ex.At.keep (fun q hq _ => hq) (fun q hq hlt o => World.cell?_of_block (hw3.block q hlt (by simp; omega))) _ _ HAT.out
  have hrd3 : Reads R g (pExpr part s).2.next w3 := by rw [← HSK.out]; exact hr3
  clear x0 x1 x2 x3 x4 x5 x6 f0 f1 f2 f3 f4 f5 f6 y0 y1 y2 y3 y4 y5 y6 g0 g1 g2 g3 g4 g5 g6
  obtain ⟨⟨x0, x1, x2, x3, x4, x5, x6⟩, f0, f1, f2, f3, f4, f5, f6⟩ := seven hL3.laid.blk
  obtain ⟨⟨y0, y1, y2, y3, y4, y5, y6⟩, g0, g1, g2, g3, g4, g5, g6⟩ := seven hL3.box
  have hlt5 : w1.heap.size < w3.heap.size := by omega
  have hlt6 : w2.heap.size < w3.heap.size := by omega
  have HIN := Lib.hid (plain_in HP.out (by omega) (by omega) hL3 hRw (by omega) (by omega) hat3 hrd3)
  clear hL3 hat3 hrd3 hw3 hr3
  go_wp2_with (fail)
  go_region_with ((go_at_call 131; refine (HIN.out _ (by repeat (first | exact grown_refl _ | apply grown_drew))).mono ?_; rintro e' w9 ⟨k5, l5, c5, n5, m5, o5, a5, b5, d5, rfl, hat5, hL5, hatE, hr5, hz5⟩; obtain ⟨⟨x0, x1, x2, x3, x4, x5, x6⟩, f0, f1, f2, f3, f4, f5, f6⟩ := seven hL5.laid.blk; obtain ⟨⟨y0, y1, y2, y3, y4, y5, y6⟩, g0, g1, g2, g3, g4, g5, g6⟩ := seven hL5.box; have hlt9 : w1.heap.size < w9.heap.size := (by omega); have hlt10 : w2.heap.size < w9.heap.size := (by omega); have HAT5 := Lib.hid hat5; have HL5 := Lib.hid hL5; have HR5 := Lib.hid hr5; have HATE := Lib.hid hatE; clear hat5 hL5 hr5 hatE; unfold cells7))
  all_goals go_wp2_with (fail)
  all_goals
    refine (must_any R g (pExpr part (pExpr part s).2.next).2 [59] _ (by repeat (first | with_reducible (refine Reads.drew ?_) | with_reducible (refine Reads.alloc ?_ _) | with_reducible (refine Reads.set ?_ _ _ (by omega)) | with_reducible (exact HR5.out)))).mono ?_
    rintro e w4 ⟨rfl, hw4, hr4⟩
    have hL4 := ((((HL5.out.laid.put 0 (.int .i64 2) (by omega) (by omega)).put 3 (.string ⟨m3.toArray⟩) (by omega) (by omega)).put 4 (.slice (some ⟨w9.heap.size, 0, none⟩) 1 1) (by omega) (by omega)).alloc (.cells (cells7 k5 l5 c5 n5 m5 o5 (.slice a5 b5 d5)) 47)).went' hw4 hRw (by omega)
    have hz4 := hw4.size
    simp at hz4
    have hkb : w4.heap[w9.heap.size]? = some (.cells (cells7 k5 l5 c5 n5 m5 o5 (.slice a5 b5 d5)) 47 (0, 0)) := hw4.keep (alloc_at _ _ _ (by simp)) (by omega)
    have hat4 : (pExpr part (pExpr part s).2.next).1.At w4 (fun q => w1.heap.size < q) (cells7 k5 l5 c5 n5 m5 o5 (.slice a5 b5 d5)) := by
      refine Ex.At.keep (fun q hq hlt => hq.1) (fun q hq hlt o => ?_) _ _ HAT5.out
      have h9 := hq.1
      rw [World.cell?_of_block (hw4.block q (by simp; omega) (by simp; omega)), World.cell?_of_block (Below.heap_alloc _ _ _ (by simp; omega)), World.cell?_of_block (Below.heap_setCell _ _ _ _ (by show q ≠ w1.heap.size; omega)), World.cell?_of_block (Below.heap_setCell _ _ _ _ (by show q ≠ w1.heap.size; omega)), World.cell?_of_block (Below.heap_setCell _ _ _ _ (by show q ≠ w1.heap.size; omega))]
    have hbk4 : w4.heap[w1.heap.size]? = some (.cells (cellsS 2 s.now.line s.now.col m3 (.slice (some ⟨w9.heap.size, 0, none⟩) 1 1) (.slice none 0 0) (.slice none 0 0)) 55 (0, 0)) := hL4.blk
    clear x0 x1 x2 x3 x4 x5 x6 f0 f1 f2 f3 f4 f5 f6 y0 y1 y2 y3 y4 y5 y6 g0 g1 g2 g3 g4 g5 g6
    obtain ⟨x0, x1, x2, x3, x4, x5, x6⟩ := (seven hbk4).1
    obtain ⟨⟨z0, z1, z2, z3, z4, z5, z6⟩, h0, h1, h2, h3, h4, h5, h6⟩ := seven hL4.res
    have HL4 := Lib.hid hL4; have HR4 := Lib.hid hr4
    have HAT4 := Lib.hid (sm_at (does := 2) (line := s.now.line) (col := s.now.col) (name := m3) (kids_one (S := fun q => w1.heap.size < q) (by omega) hkb hat4) (body_none none 0) (body_none none 0))
    have hlt7 : w.heap.size < w4.heap.size := by omega
    have hlt8 : w1.heap.size < w4.heap.size := by omega
    clear hL4 hr4 hw4 hkb hat4 hbk4
    go_wp2_with (fail)
    refine bodyPost_ret (v := .agg (cellsS 2 s.now.line s.now.col m3 (.slice (some ⟨w9.heap.size, 0, none⟩) 1 1) (.slice none 0 0) (.slice none 0 0))) (by simp [results, Tryz.results120, go_sem, cellsS, z0, z1, z2, z3, z4, z5, z6]) rfl ?_
    rw [HV.out, HM.out]
    refine sm_end (r := w.heap.size) (S := fun q => w1.heap.size < q) ?_ HAT4.out (fun q hq => ⟨by omega, by omega⟩) (Nat.le_refl _) hRw HL4.out.went HR4.out
    repeat (first | with_reducible (refine Sets.set ?_ _ _) | with_reducible (exact Sets.refl _ _))
end Go.Proofs.YtaomlahphlemdaaGreatDoor
