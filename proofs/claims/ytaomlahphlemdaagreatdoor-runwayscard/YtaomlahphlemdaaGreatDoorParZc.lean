/-
  The parser: a statement that begins with an expression: none of these.
-/
import Derived.Test.YtaomlahphlemdaaGreatDoorParZb
namespace Go.Proofs.YtaomlahphlemdaaGreatDoor
open Go.ChangeShapes Go.WideShapes Go.ChangeAt Go.RowKit
set_option linter.unusedVariables false

set_option maxHeartbeats 2000000 in
set_option maxRecDepth 100000 in
theorem plain_no3 {R g n : Nat} {part : Par} (hp : ExprOk R g n part) (s : St) (w : World) (hl : s.left.length ≤ n) (hd : s.deep + 2 * s.left.length + 1 ≤ 300000) (h : Reads R g s w) (hk : (pExpr part s).1.kind = 3) (hs : (pExpr part s).2.sees [[61]] = false) :
    Calls Tryz.prog 120 #[.pointer (some ⟨R, 0, none⟩)] w (SmPost R g (pPlain (pExpr part) s) w) := by
  have HV := Lib.hid (show pPlain (pExpr part) s = (.mk 0 s.now.line s.now.col [] [] [] [], (pExpr part s).2.refuse.must [59]) by unfold pPlain; rw [if_neg (by rw [hk]; decide), if_neg (by rw [hs]; exact fun h => absurd h.2 (by decide)), if_neg (by rw [hs]; exact fun h => absurd h.2 (by decide))])
  have HP := Lib.hid hp; have HR := Lib.hid h
  have HSE := Lib.hid hs; have HK := Lib.hid hk; have HSK := Lib.hid (show (pExpr part s).2.skip [61] = (pExpr part s).2 by unfold St.skip; rw [hs]; rfl)
  clear hs hk
  have hRw := h.size
  clear hp h
  go_enter Tryz.func120, Tryz.ntmps120
  go_wp2_with (fail)
  refine (now_any R g s _ (HR.out.alloc _)).mono ?_
  rintro e w1 ⟨rfl, hg1⟩
  have HG1 := Lib.hid hg1
  have HRW := Lib.hid (((HR.out.alloc _).more hg1).alloc (.cells (cellsS 0 s.now.line s.now.col [] (.slice none 0 0) (.slice none 0 0) (.slice none 0 0)) 55))
  clear hg1
  unfold tokAgg
  go_wp2_with (fail)
  rw [field_at]
  simp only [Result.andThen]
  rw [Oper.upon_value]
  go_wp2_with (fail)
  refine (HP.out s _ hl hd HRW.out).mono ?_
  rintro e w2 ⟨cs, rfl, hat, hw2, hr2⟩
  obtain ⟨hlt1, hlt2, hL, hat', hr'⟩ := plain_pre HG1.out hRw hw2 hat hr2
  obtain ⟨k3, l3, c3, n3, m3, o3, a3, b3, d3, rfl⟩ := hat.cells
  obtain ⟨hk3, hm3⟩ := at_kind hat
  obtain rfl : k3 = 3 := by rw [← hk3]; exact HK.out
  clear hat hw2 hr2 hm3 hat'
  unfold cells7 at hL
  unfold cells7
  go_wp2_with (fail)
  generalize hW : w2.alloc (.cells #[.int .i64 3, .int .i64 l3, .int .i64 c3, .int .i64 n3, .string ⟨m3.toArray⟩, .int .i64 o3, .slice a3 b3 d3] 47) = W at hL
  have hrd2 : Reads R g (pExpr part s).2 W := by rw [← hW]; exact hr'
  have hsW : W.heap.size = w2.heap.size + 1 := by rw [← hW]; simp
  clear hW hr'
  obtain ⟨⟨x0, x1, x2, x3, x4, x5, x6⟩, f0, f1, f2, f3, f4, f5, f6⟩ := seven hL.laid.blk
  obtain ⟨⟨y0, y1, y2, y3, y4, y5, y6⟩, g0, g1, g2, g3, g4, g5, g6⟩ := seven hL.box
  have HL := Lib.hid hL; have HR2 := Lib.hid hrd2
  have hlt3 : w1.heap.size < W.heap.size := by omega
  have hlt4 : w2.heap.size < W.heap.size := by omega
  clear hL hrd2
  go_wp2_with (fail)
  refine (skip_any R g (pExpr part s).2 [61] _ HR2.out).mono ?_
  rintro e w3 ⟨rfl, hw3, hr3⟩
  rw [HSE.out]
  have hz3 := hw3.size
  have hL3 := HL.out.went' hw3 hRw (by omega) (by omega)
  have hrd3 : Reads R g (pExpr part s).2 w3 := by rw [← HSK.out]; exact hr3
  clear x0 x1 x2 x3 x4 x5 x6 f0 f1 f2 f3 f4 f5 f6 y0 y1 y2 y3 y4 y5 y6 g0 g1 g2 g3 g4 g5 g6
  obtain ⟨⟨x0, x1, x2, x3, x4, x5, x6⟩, f0, f1, f2, f3, f4, f5, f6⟩ := seven hL3.laid.blk
  obtain ⟨⟨y0, y1, y2, y3, y4, y5, y6⟩, g0, g1, g2, g3, g4, g5, g6⟩ := seven hL3.box
  have hlt5 : w1.heap.size < w3.heap.size := by omega
  have hlt6 : w2.heap.size < w3.heap.size := by omega
  have HL3 := Lib.hid hL3; have HR3 := Lib.hid hrd3
  clear hL3 hrd3 hw3 hr3
  go_wp2_with (fail)
  refine (refuse_any R g (pExpr part s).2 _ HR3.out).mono ?_
  rintro e w5 ⟨rfl, hw5, hr5⟩
  have hz5 := hw5.size
  have HL5 := Lib.hid (HL3.out.went' hw5 hRw (by omega) (by omega)); have HR5 := Lib.hid hr5
  clear hw5 hr5
  go_wp2_with (fail)
  refine (must_any R g (pExpr part s).2.refuse [59] _ HR5.out).mono ?_
  rintro e w4 ⟨rfl, hw4, hr4⟩
  have hL4 := HL5.out.laid.went' hw4 hRw (by omega)
  have hz4 := hw4.size
  clear x0 x1 x2 x3 x4 x5 x6 f0 f1 f2 f3 f4 f5 f6 y0 y1 y2 y3 y4 y5 y6 g0 g1 g2 g3 g4 g5 g6
  obtain ⟨x0, x1, x2, x3, x4, x5, x6⟩ := (seven hL4.blk).1
  obtain ⟨⟨z0, z1, z2, z3, z4, z5, z6⟩, h0, h1, h2, h3, h4, h5, h6⟩ := seven hL4.res
  have HL4 := Lib.hid hL4; have HR4 := Lib.hid hr4
  have HAT4 := Lib.hid (sm_at (w := w4) (S := fun q => w1.heap.size < q) (does := 0) (line := s.now.line) (col := s.now.col) (name := []) (ev := .slice none 0 0) (.inl ⟨rfl, _, _, rfl⟩) (body_none none 0) (body_none none 0))
  have hlt7 : w.heap.size < w4.heap.size := by omega
  have hlt8 : w1.heap.size < w4.heap.size := by omega
  clear hL4 hr4 hw4
  go_wp2_with (fail)
  refine bodyPost_ret (v := .agg (cellsS 0 s.now.line s.now.col [] (.slice none 0 0) (.slice none 0 0) (.slice none 0 0))) (by simp [results, Tryz.results120, go_sem, cellsS, z0, z1, z2, z3, z4, z5, z6]) rfl ?_
  rw [HV.out]
  refine sm_end (r := w.heap.size) (S := fun q => w1.heap.size < q) ?_ HAT4.out (fun q hq => ⟨by omega, by omega⟩) (Nat.le_refl _) hRw HL4.out.went HR4.out
  repeat (first | with_reducible (refine Sets.set ?_ _ _) | with_reducible (exact Sets.refl _ _))

set_option maxHeartbeats 2000000 in
set_option maxRecDepth 100000 in
theorem plain_no4 {R g n : Nat} {part : Par} (hp : ExprOk R g n part) (s : St) (w : World) (hl : s.left.length ≤ n) (hd : s.deep + 2 * s.left.length + 1 ≤ 300000) (h : Reads R g s w) (hk : (pExpr part s).1.kind = 4) (hs : (pExpr part s).2.sees [[61]] = false) :
    Calls Tryz.prog 120 #[.pointer (some ⟨R, 0, none⟩)] w (SmPost R g (pPlain (pExpr part) s) w) := by
  have HV := Lib.hid (show pPlain (pExpr part) s = (.mk 0 s.now.line s.now.col [] [] [] [], (pExpr part s).2.refuse.must [59]) by unfold pPlain; rw [if_neg (by rw [hk]; decide), if_neg (by rw [hs]; exact fun h => absurd h.2 (by decide)), if_neg (by rw [hs]; exact fun h => absurd h.2 (by decide))])
  have HP := Lib.hid hp; have HR := Lib.hid h
  have HSE := Lib.hid hs; have HK := Lib.hid hk; have HSK := Lib.hid (show (pExpr part s).2.skip [61] = (pExpr part s).2 by unfold St.skip; rw [hs]; rfl)
  clear hs hk
  have hRw := h.size
  clear hp h
  go_enter Tryz.func120, Tryz.ntmps120
  go_wp2_with (fail)
  refine (now_any R g s _ (HR.out.alloc _)).mono ?_
  rintro e w1 ⟨rfl, hg1⟩
  have HG1 := Lib.hid hg1
  have HRW := Lib.hid (((HR.out.alloc _).more hg1).alloc (.cells (cellsS 0 s.now.line s.now.col [] (.slice none 0 0) (.slice none 0 0) (.slice none 0 0)) 55))
  clear hg1
  unfold tokAgg
  go_wp2_with (fail)
  rw [field_at]
  simp only [Result.andThen]
  rw [Oper.upon_value]
  go_wp2_with (fail)
  refine (HP.out s _ hl hd HRW.out).mono ?_
  rintro e w2 ⟨cs, rfl, hat, hw2, hr2⟩
  obtain ⟨hlt1, hlt2, hL, hat', hr'⟩ := plain_pre HG1.out hRw hw2 hat hr2
  obtain ⟨k3, l3, c3, n3, m3, o3, a3, b3, d3, rfl⟩ := hat.cells
  obtain ⟨hk3, hm3⟩ := at_kind hat
  obtain rfl : k3 = 4 := by rw [← hk3]; exact HK.out
  clear hat hw2 hr2 hm3 hat'
  unfold cells7 at hL
  unfold cells7
  go_wp2_with (fail)
  generalize hW : w2.alloc (.cells #[.int .i64 4, .int .i64 l3, .int .i64 c3, .int .i64 n3, .string ⟨m3.toArray⟩, .int .i64 o3, .slice a3 b3 d3] 47) = W at hL
  have hrd2 : Reads R g (pExpr part s).2 W := by rw [← hW]; exact hr'
  have hsW : W.heap.size = w2.heap.size + 1 := by rw [← hW]; simp
  clear hW hr'
  obtain ⟨⟨x0, x1, x2, x3, x4, x5, x6⟩, f0, f1, f2, f3, f4, f5, f6⟩ := seven hL.laid.blk
  obtain ⟨⟨y0, y1, y2, y3, y4, y5, y6⟩, g0, g1, g2, g3, g4, g5, g6⟩ := seven hL.box
  have HL := Lib.hid hL; have HR2 := Lib.hid hrd2
  have hlt3 : w1.heap.size < W.heap.size := by omega
  have hlt4 : w2.heap.size < W.heap.size := by omega
  clear hL hrd2
  go_wp2_with (fail)
  refine (skip_any R g (pExpr part s).2 [61] _ HR2.out).mono ?_
  rintro e w3 ⟨rfl, hw3, hr3⟩
  rw [HSE.out]
  have hz3 := hw3.size
  have hL3 := HL.out.went' hw3 hRw (by omega) (by omega)
  have hrd3 : Reads R g (pExpr part s).2 w3 := by rw [← HSK.out]; exact hr3
  clear x0 x1 x2 x3 x4 x5 x6 f0 f1 f2 f3 f4 f5 f6 y0 y1 y2 y3 y4 y5 y6 g0 g1 g2 g3 g4 g5 g6
  obtain ⟨⟨x0, x1, x2, x3, x4, x5, x6⟩, f0, f1, f2, f3, f4, f5, f6⟩ := seven hL3.laid.blk
  obtain ⟨⟨y0, y1, y2, y3, y4, y5, y6⟩, g0, g1, g2, g3, g4, g5, g6⟩ := seven hL3.box
  have hlt5 : w1.heap.size < w3.heap.size := by omega
  have hlt6 : w2.heap.size < w3.heap.size := by omega
  have HL3 := Lib.hid hL3; have HR3 := Lib.hid hrd3
  clear hL3 hrd3 hw3 hr3
  go_wp2_with (fail)
  refine (refuse_any R g (pExpr part s).2 _ HR3.out).mono ?_
  rintro e w5 ⟨rfl, hw5, hr5⟩
  have hz5 := hw5.size
  have HL5 := Lib.hid (HL3.out.went' hw5 hRw (by omega) (by omega)); have HR5 := Lib.hid hr5
  clear hw5 hr5
  go_wp2_with (fail)
  refine (must_any R g (pExpr part s).2.refuse [59] _ HR5.out).mono ?_
  rintro e w4 ⟨rfl, hw4, hr4⟩
  have hL4 := HL5.out.laid.went' hw4 hRw (by omega)
  have hz4 := hw4.size
  clear x0 x1 x2 x3 x4 x5 x6 f0 f1 f2 f3 f4 f5 f6 y0 y1 y2 y3 y4 y5 y6 g0 g1 g2 g3 g4 g5 g6
  obtain ⟨x0, x1, x2, x3, x4, x5, x6⟩ := (seven hL4.blk).1
  obtain ⟨⟨z0, z1, z2, z3, z4, z5, z6⟩, h0, h1, h2, h3, h4, h5, h6⟩ := seven hL4.res
  have HL4 := Lib.hid hL4; have HR4 := Lib.hid hr4
  have HAT4 := Lib.hid (sm_at (w := w4) (S := fun q => w1.heap.size < q) (does := 0) (line := s.now.line) (col := s.now.col) (name := []) (ev := .slice none 0 0) (.inl ⟨rfl, _, _, rfl⟩) (body_none none 0) (body_none none 0))
  have hlt7 : w.heap.size < w4.heap.size := by omega
  have hlt8 : w1.heap.size < w4.heap.size := by omega
  clear hL4 hr4 hw4
  go_wp2_with (fail)
  refine bodyPost_ret (v := .agg (cellsS 0 s.now.line s.now.col [] (.slice none 0 0) (.slice none 0 0) (.slice none 0 0))) (by simp [results, Tryz.results120, go_sem, cellsS, z0, z1, z2, z3, z4, z5, z6]) rfl ?_
  rw [HV.out]
  refine sm_end (r := w.heap.size) (S := fun q => w1.heap.size < q) ?_ HAT4.out (fun q hq => ⟨by omega, by omega⟩) (Nat.le_refl _) hRw HL4.out.went HR4.out
  repeat (first | with_reducible (refine Sets.set ?_ _ _) | with_reducible (exact Sets.refl _ _))

set_option maxHeartbeats 2000000 in
set_option maxRecDepth 100000 in
theorem plain_no {R g n : Nat} {part : Par} (hp : ExprOk R g n part) (s : St) (w : World) (hl : s.left.length ≤ n) (hd : s.deep + 2 * s.left.length + 1 ≤ 300000) (h : Reads R g s w) (hk5 : (pExpr part s).1.kind ≠ 5) (hk3 : (pExpr part s).1.kind ≠ 3) (hk4 : (pExpr part s).1.kind ≠ 4) :
    Calls Tryz.prog 120 #[.pointer (some ⟨R, 0, none⟩)] w (SmPost R g (pPlain (pExpr part) s) w) := by
  have HV := Lib.hid (show pPlain (pExpr part) s = (.mk 0 s.now.line s.now.col [] [] [] [], (pExpr part s).2.refuse.must [59]) by unfold pPlain; rw [if_neg hk5, if_neg (fun h => hk3 h.1), if_neg (fun h => hk4 h.1)])
  have HP := Lib.hid hp; have HR := Lib.hid h
  have HK5 := Lib.hid hk5; have HK3 := Lib.hid hk3; have HK4 := Lib.hid hk4
  clear hk5 hk3 hk4
  have hRw := h.size
  clear hp h
  go_enter Tryz.func120, Tryz.ntmps120
  go_wp2_with (fail)
  refine (now_any R g s _ (HR.out.alloc _)).mono ?_
  rintro e w1 ⟨rfl, hg1⟩
  have HG1 := Lib.hid hg1
  have HRW := Lib.hid (((HR.out.alloc _).more hg1).alloc (.cells (cellsS 0 s.now.line s.now.col [] (.slice none 0 0) (.slice none 0 0) (.slice none 0 0)) 55))
  clear hg1
  unfold tokAgg
  go_wp2_with (fail)
  rw [field_at]
  simp only [Result.andThen]
  rw [Oper.upon_value]
  go_wp2_with (fail)
  refine (HP.out s _ hl hd HRW.out).mono ?_
  rintro e w2 ⟨cs, rfl, hat, hw2, hr2⟩
  obtain ⟨hlt1, hlt2, hL, hat', hr'⟩ := plain_pre HG1.out hRw hw2 hat hr2
  obtain ⟨k3, l3, c3, n3, m3, o3, a3, b3, d3, rfl⟩ := hat.cells
  obtain ⟨hk3, hm3⟩ := at_kind hat
  have kb5 : (k3 == 5) = false := by rw [← hk3]; simpa using HK5.out
  have kb3 : (k3 == 3) = false := by rw [← hk3]; simpa using HK3.out
  have kb4 : (k3 == 4) = false := by rw [← hk3]; simpa using HK4.out
  clear hat hw2 hr2 hm3 hat'
  unfold cells7 at hL
  unfold cells7
  go_wp2_with (fail)
  generalize hW : w2.alloc (.cells #[.int .i64 k3, .int .i64 l3, .int .i64 c3, .int .i64 n3, .string ⟨m3.toArray⟩, .int .i64 o3, .slice a3 b3 d3] 47) = W at hL
  have hrd2 : Reads R g (pExpr part s).2 W := by rw [← hW]; exact hr'
  have hsW : W.heap.size = w2.heap.size + 1 := by rw [← hW]; simp
  clear hW hr'
  obtain ⟨⟨x0, x1, x2, x3, x4, x5, x6⟩, f0, f1, f2, f3, f4, f5, f6⟩ := seven hL.laid.blk
  obtain ⟨⟨y0, y1, y2, y3, y4, y5, y6⟩, g0, g1, g2, g3, g4, g5, g6⟩ := seven hL.box
  have HL := Lib.hid hL; have HR2 := Lib.hid hrd2
  have hlt3 : w1.heap.size < W.heap.size := by omega
  have hlt4 : w2.heap.size < W.heap.size := by omega
  clear hL hrd2
  go_wp2_with (fail)
  have HL3 := HL; have HR3 := HR2
  refine (refuse_any R g (pExpr part s).2 _ HR3.out).mono ?_
  rintro e w5 ⟨rfl, hw5, hr5⟩
  have hz5 := hw5.size
  have HL5 := Lib.hid (HL3.out.went' hw5 hRw (by omega) (by omega)); have HR5 := Lib.hid hr5
  clear hw5 hr5
  go_wp2_with (fail)
  refine (must_any R g (pExpr part s).2.refuse [59] _ HR5.out).mono ?_
  rintro e w4 ⟨rfl, hw4, hr4⟩
  have hL4 := HL5.out.laid.went' hw4 hRw (by omega)
  have hz4 := hw4.size
  clear x0 x1 x2 x3 x4 x5 x6 f0 f1 f2 f3 f4 f5 f6 y0 y1 y2 y3 y4 y5 y6 g0 g1 g2 g3 g4 g5 g6
  obtain ⟨x0, x1, x2, x3, x4, x5, x6⟩ := (seven hL4.blk).1
  obtain ⟨⟨z0, z1, z2, z3, z4, z5, z6⟩, h0, h1, h2, h3, h4, h5, h6⟩ := seven hL4.res
  have HL4 := Lib.hid hL4; have HR4 := Lib.hid hr4
  have HAT4 := Lib.hid (sm_at (w := w4) (S := fun q => w1.heap.size < q) (does := 0) (line := s.now.line) (col := s.now.col) (name := []) (ev := .slice none 0 0) (.inl ⟨rfl, _, _, rfl⟩) (body_none none 0) (body_none none 0))
  have hlt7 : w.heap.size < w4.heap.size := by omega
  have hlt8 : w1.heap.size < w4.heap.size := by omega
  clear hL4 hr4 hw4
  go_wp2_with (fail)
  refine bodyPost_ret (v := .agg (cellsS 0 s.now.line s.now.col [] (.slice none 0 0) (.slice none 0 0) (.slice none 0 0))) (by simp [results, Tryz.results120, go_sem, cellsS, z0, z1, z2, z3, z4, z5, z6]) rfl ?_
  rw [HV.out]
  refine sm_end (r := w.heap.size) (S := fun q => w1.heap.size < q) ?_ HAT4.out (fun q hq => ⟨by omega, by omega⟩) (Nat.le_refl _) hRw HL4.out.went HR4.out
  repeat (first | with_reducible (refine Sets.set ?_ _ _) | with_reducible (exact Sets.refl _ _))

theorem plain_any {R g n : Nat} {part : Par} (hp : ExprOk R g n part) (hf : Fine n (pExpr part)) (hone : ∀ s : St, (pExpr part s).1.kind = 4 → (pExpr part s).1.kids.length = 1) (s : St) (hl : s.left.length ≤ n) (hd : s.deep + 2 * s.left.length + 1 ≤ 300000) : SmAt R g 120 s (pPlain (pExpr part) s) := by
  intro w h
  by_cases h5 : (pExpr part s).1.kind = 5
  · exact plain_run hp s w hl hd h h5
  by_cases h3 : (pExpr part s).1.kind = 3
  · cases hs : (pExpr part s).2.sees [[61]]
    · exact plain_no3 hp s w hl hd h h3 hs
    · exact plain_set hp hf s w hl hd h h3 hs
  by_cases h4 : (pExpr part s).1.kind = 4
  · cases hs : (pExpr part s).2.sees [[61]]
    · exact plain_no4 hp s w hl hd h h4 hs
    · exact plain_put hp hf s w hl hd h h4 hs (hone s h4)
  exact plain_no hp s w hl hd h h5 h3 h4
end Go.Proofs.YtaomlahphlemdaaGreatDoor
