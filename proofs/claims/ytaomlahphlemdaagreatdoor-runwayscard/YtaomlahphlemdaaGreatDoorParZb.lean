/-
  The parser: a statement that begins with an expression: an array is put to.
-/
import Derived.Test.YtaomlahphlemdaaGreatDoorParZa
import Derived.Deep.RegionLawGrows
namespace Go.Proofs.YtaomlahphlemdaaGreatDoor
open Go.ChangeShapes Go.WideShapes Go.ChangeAt Go.RowKit
set_option linter.unusedVariables false


theorem at4 {w : World} {S : Nat → Prop} {e : Ex} {l c n o : Int} {m : List UInt8} {v : Value} (h : e.At w S (cells7 4 l c n m o v)) (h1 : e.kids.length = 1) : ∃ kg ko, v = .slice (some ⟨kg, ko, none⟩) 1 1 := by
  cases e with
  | mk kd ln cl nm nme op ks =>
    have h1' : ks.length = 1 := h1
    unfold Ex.At at h
    obtain ⟨_, _, kv, he, ht, hk⟩ := h
    simp [cells7] at he
    obtain ⟨rfl, _, _, _, _, _, rfl⟩ := he
    rcases ht with ht | ⟨a, q, rfl⟩
    · exact absurd rfl ht
    rcases hk with ⟨hn, _⟩ | ⟨_, g, p, cap, hv, _⟩
    · rw [hn] at h1'; cases h1'
    · simp at hv
      exact ⟨g, p, by rw [hv.1, hv.2.1, h1']⟩
theorem at4' {w : World} {S : Nat → Prop} {e : Ex} {l c n o : Int} {m : List UInt8} {kg ko : Nat} (h : e.At w S (cells7 4 l c n m o (.slice (some ⟨kg, ko, none⟩) 1 1))) (h1 : e.kids.length = 1) :
    ∃ e0 k1 l1 c1 n1 m1 o1 a1 b1 d1, e.kids = [e0] ∧ S kg ∧ kg < w.heap.size ∧ e0.At w S (cells7 k1 l1 c1 n1 m1 o1 (.slice a1 b1 d1)) ∧ ∀ (j : Nat) (u : Value), [Value.int .i64 k1, .int .i64 l1, .int .i64 c1, .int .i64 n1, .string ⟨m1.toArray⟩, .int .i64 o1, .slice a1 b1 d1][j]? = some u → w.cell? ((⟨kg, ko, none⟩ : Addr).add j) = some u := by
  cases e with
  | mk kd ln cl nm nme op ks =>
    have h1' : ks.length = 1 := h1
    unfold Ex.At at h
    obtain ⟨_, _, kv, he, ht, hk⟩ := h
    simp [cells7] at he
    obtain ⟨rfl, _, _, _, _, _, rfl⟩ := he
    rcases hk with ⟨hn, _⟩ | ⟨_, g, p, cap, hv, hSg, _, _, hrow⟩
    · rw [hn] at h1'; cases h1'
    · simp at hv
      obtain ⟨⟨rfl, rfl⟩, _, _⟩ := hv
      match ks, h1', hrow with
      | [e0], _, hrow =>
        have hlt := hrow.lt
        unfold Ex.Row at hrow
        obtain ⟨⟨cs, hat, hc⟩, _⟩ := hrow
        obtain ⟨k1, l1, c1, n1, m1, o1, a1, b1, d1, rfl⟩ := hat.cells
        refine ⟨e0, k1, l1, c1, n1, m1, o1, a1, b1, d1, rfl, hSg, hlt, hat, fun j u hu => ?_⟩
        rw [Go.WideShapes.add_plain]
        have hj : j < 7 := by
          rcases Nat.lt_or_ge j 7 with h | h
          · exact h
          · rw [List.getElem?_eq_none (by simpa using h)] at hu; cases hu
        rw [hc j hj, ← hu]
        simp [cells7]
theorem old_cells {w : World} {kg ko : Nat} {l : List Value} (h : ∀ (j : Nat) (u : Value), l[j]? = some u → w.cell? ((⟨kg, ko, none⟩ : Addr).add j) = some u) (hlt : kg < w.heap.size) (o : Obj) : ∀ b, some (⟨kg, ko, none⟩ : Addr) = some b → ∀ (j : Nat) (u : Value), l[j]? = some u → (w.alloc o).cell? (b.add j) = some u := by
  intro b hb j u hu
  cases hb
  have := h j u hu
  rw [Go.WideShapes.add_plain] at this ⊢
  rw [World.cell?_of_block (Below.heap_alloc _ _ _ hlt)]
  exact this
theorem put_after {R g r b c gb gc : Nat} {cs ce : Array Value} {w w9 w6 : World} {e0 e1 : Ex} {s : St} {k1 l1 c1 n1 o1 k5 l5 c5 n5 o5 : Int} {m1 m5 : List UInt8} {a1 a5 : Option Addr} {b1 d1 b5 d5 : Nat} (hL : LaidP R r b c cs ce w w9) (hR : R < w.heap.size) (hbw : w.heap.size < b) (hbc : b < c) (hr : Reads R g s w9)
    (h0 : e0.At w9 (fun q => b < q ∧ q ≠ c) (cells7 k1 l1 c1 n1 m1 o1 (.slice a1 b1 d1))) (h1 : e1.At w9 (fun q => b < q ∧ q ≠ c) (cells7 k5 l5 c5 n5 m5 o5 (.slice a5 b5 d5)))
    (hown : w6.ownsRow (w9.alloc (.cells (cells7 k5 l5 c5 n5 m5 o5 (.slice a5 b5 d5)) 47)).heap.size 47 7 (.slice (some ⟨gb, 0, none⟩) 2 gc) 2 ([.int .i64 k1, .int .i64 l1, .int .i64 c1, .int .i64 n1, .string ⟨m1.toArray⟩, .int .i64 o1, .slice a1 b1 d1] ++ [.int .i64 k5, .int .i64 l5, .int .i64 c5, .int .i64 n5, .string ⟨m5.toArray⟩, .int .i64 o5, .slice a5 b5 d5]))
    (hg : (w9.alloc (.cells (cells7 k5 l5 c5 n5 m5 o5 (.slice a5 b5 d5)) 47)).grownBy w6 none) (hrr : R < r) (hrb : r < b) : LaidP R r b c cs ce w w6 ∧ KidsAt w6 (fun q => b < q) [e0, e1] (.slice (some ⟨gb, 0, none⟩) 2 gc) ∧ Reads R g s w6 ∧ w9.heap.size ≤ w6.heap.size := by
  have hga := grown_trans (grown_alloc w9 (.cells (cells7 k5 l5 c5 n5 m5 o5 (.slice a5 b5 d5)) 47)) hg
  have hcl := (Array.getElem?_eq_some_iff.1 hL.box).1
  have hgb := (hown.lt gb rfl).1
  simp at hgb
  refine ⟨hL.went' (went_none hga) hrr (by omega) (by omega), .inr ⟨by simp, gb, 0, gc, rfl, by omega, ?_, by simp, ?_⟩, hr.more hga, hga.size⟩
  · rcases hown.2 with ⟨hv, _⟩ | ⟨g', cap', cur, hv, _, _, hle, _⟩
    · cases hv
    · cases hv; exact hle
  · have hk : ∀ q, (b < q ∧ q ≠ c) → q < w9.heap.size → ∀ o, w6.cell? ⟨q, o, none⟩ = w9.cell? ⟨q, o, none⟩ := fun q _ hlt o => World.cell?_of_block (hga.block q hlt (by simp))
    have hall : AtAll w6 (fun q => b < q) [e0, e1] [cells7 k1 l1 c1 n1 m1 o1 (.slice a1 b1 d1), cells7 k5 l5 c5 n5 m5 o5 (.slice a5 b5 d5)] :=
      ⟨Ex.At.keep (fun q h _ => h.1) hk _ _ h0, Ex.At.keep (fun q h _ => h.1) hk _ _ h1, trivial⟩
    exact hall.row 0 fun j u hu => by have := hown.cells (g := gb) rfl j u hu; rwa [Go.WideShapes.add_plain] at this

set_option maxHeartbeats 2000000 in
set_option maxRecDepth 100000 in
theorem plain_put {R g n : Nat} {part : Par} (hp : ExprOk R g n part) (hf : Fine n (pExpr part)) (s : St) (w : World) (hl : s.left.length ≤ n) (hd : s.deep + 2 * s.left.length + 1 ≤ 300000) (h : Reads R g s w) (hk : (pExpr part s).1.kind = 4) (hs : (pExpr part s).2.sees [[61]] = true) (hone : (pExpr part s).1.kids.length = 1) :
    Calls Tryz.prog 120 #[.pointer (some ⟨R, 0, none⟩)] w (SmPost R g (pPlain (pExpr part) s) w) := by
  have HV := Lib.hid (show pPlain (pExpr part) s = (.mk 3 s.now.line s.now.col (pExpr part s).1.name ((pExpr part s).1.kids ++ [(pExpr part (pExpr part s).2.next).1]) [] [], (pExpr part (pExpr part s).2.next).2.must [59]) by unfold pPlain; rw [if_neg (by rw [hk]; decide), if_neg (by rw [hk]; exact fun h => absurd h.1 (by decide)), if_pos ⟨hk, hs⟩])
  obtain ⟨i0, hi, hz⟩ := Option.map_eq_some_iff.1 infoExpr
  obtain ⟨hz0, hz1, hz2⟩ : i0.zero = some (.agg zero7) ∧ i0.size = 7 ∧ i0.bytes = 80 := by simpa using hz
  have HI := Lib.hid hi; have HZ0 := Lib.hid hz0; have HZ1 := Lib.hid hz1; have HZ2 := Lib.hid hz2; have HONE := Lib.hid hone
  clear hz hi hz0 hz1 hz2 hone
  have HP := Lib.hid hp; have HR := Lib.hid h; have HK := Lib.hid hk; have HSK := Lib.hid (show (pExpr part s).2.skip [61] = (pExpr part s).2.next by unfold St.skip; rw [hs]; rfl)
  have hRw := h.size
  have hfx := hf s hl
  have hfn := (pExpr part s).2.next_fine
  have HSE := Lib.hid hs
  clear hp h hk hf hs
  go_enter Tryz.func120, Tryz.ntmps120
  go_wp2_with (fail)
  refine (now_any R g s _ (HR.out.alloc _)).mono ?_
  rintro e w1 ⟨rfl, hg1⟩
  have HG1 := Lib.hid hg1
  have HRW := Lib.hid (((HR.out.alloc _).more hg1).alloc (.cells (cellsS 0 s.now.line s.now.col [] (.slice none 0 0) (.slice none 0 0) (.slice none 0 0)) 55))
  clear hg1
  unfold tokAgg
  go_wp2_with (fail)
  rw [field_at]
  simp only [Result.andThen]
  rw [Oper.upon_value]
  go_wp2_with (fail)
  refine (HP.out s _ hl hd HRW.out).mono ?_
  rintro e w2 ⟨cs, rfl, hat, hw2, hr2⟩
  obtain ⟨hlt1, hlt2, hL, hat', hr'⟩ := plain_pre HG1.out hRw hw2 hat hr2
  obtain ⟨k3, l3, c3, n3, m3, o3, a3, b3, d3, rfl⟩ := hat.cells
  obtain ⟨hk3, hm3⟩ := at_kind hat
  obtain rfl : k3 = 4 := by rw [← hk3]; exact HK.out
  have HM := Lib.hid hm3
  obtain ⟨kg, ko, hv4⟩ := at4 hat HONE.out
  cases hv4
  clear hat hw2 hr2 hk3 hm3
  unfold cells7 at hL
  unfold cells7
  go_wp2_with (fail)
  generalize hW : w2.alloc (.cells #[.int .i64 4, .int .i64 l3, .int .i64 c3, .int .i64 n3, .string ⟨m3.toArray⟩, .int .i64 o3, .slice (some ⟨kg, ko, none⟩) 1 1] 47) = W at hL
  have hat2 : (pExpr part s).1.At W (fun q => w1.heap.size < q ∧ q ≠ w2.heap.size) (cells7 4 l3 c3 n3 m3 o3 (.slice (some ⟨kg, ko, none⟩) 1 1)) := by rw [← hW]; exact hat'
  have hrd2 : Reads R g (pExpr part s).2 W := by rw [← hW]; exact hr'
  have hsW : W.heap.size = w2.heap.size + 1 := by rw [← hW]; simp
  clear hW hat' hr'
  obtain ⟨⟨x0, x1, x2, x3, x4, x5, x6⟩, f0, f1, f2, f3, f4, f5, f6⟩ := seven hL.laid.blk
  obtain ⟨⟨y0, y1, y2, y3, y4, y5, y6⟩, g0, g1, g2, g3, g4, g5, g6⟩ := seven hL.box
  have HL := Lib.hid hL; have HAT := Lib.hid hat2; have HR2 := Lib.hid hrd2
  have hlt3 : w1.heap.size < W.heap.size := by omega
  have hlt4 : w2.heap.size < W.heap.size := by omega
  clear hL hat2 hrd2
  go_wp2_with (fail)
  refine (skip_any R g (pExpr part s).2 [61] _ HR2.out).mono ?_
  rintro e w3 ⟨rfl, hw3, hr3⟩
  rw [HSE.out]
  have hz3 := hw3.size
  have hL3 := HL.out.went' hw3 hRw (by omega) (by omega)
  have hat3 : (pExpr part s).1.At w3 (fun q => w1.heap.size < q ∧ q ≠ w2.heap.size) (cells7 4 l3 c3 n3 m3 o3 (.slice (some ⟨kg, ko, none⟩) 1 1)) := Ex.At.keep (fun q hq _ => hq) (fun q hq hlt o => World.cell?_of_block (hw3.block q hlt (by simp; omega))) _ _ HAT.out
  have hrd3 : Reads R g (pExpr part s).2.next w3 := by rw [← HSK.out]; exact hr3
  clear x0 x1 x2 x3 x4 x5 x6 f0 f1 f2 f3 f4 f5 f6 y0 y1 y2 y3 y4 y5 y6 g0 g1 g2 g3 g4 g5 g6
  obtain ⟨⟨x0, x1, x2, x3, x4, x5, x6⟩, f0, f1, f2, f3, f4, f5, f6⟩ := seven hL3.laid.blk
  obtain ⟨⟨y0, y1, y2, y3, y4, y5, y6⟩, g0, g1, g2, g3, g4, g5, g6⟩ := seven hL3.box
  have hlt5 : w1.heap.size < w3.heap.size := by omega
  have hlt6 : w2.heap.size < w3.heap.size := by omega
  have HIN := Lib.hid (plain_in HP.out (by omega) (by omega) hL3 hRw (by omega) (by omega) hat3 hrd3)
  clear hL3 hat3 hrd3 hw3 hr3
  go_wp2_with (fail)
  go_region_law (first | (refine step_append_grows rfl _ _ 45 rfl 47 i0 (.agg zero7) 7 80 Tryz.underlying45 HI.out HZ0.out HZ1.out HZ2.out rfl (by decide) (some ⟨kg, ko, none⟩) 1 1 [.int .i64 k6, .int .i64 l6, .int .i64 c6, .int .i64 n6, .string ⟨m6.toArray⟩, .int .i64 o6, .slice a6 b6 d6] rfl (fun h => by cases h) rfl ?hold ⟨w9.heap.size, 0, none⟩ 1 1 [.int .i64 k5, .int .i64 l5, .int .i64 c5, .int .i64 n5, .string ⟨m5.toArray⟩, .int .i64 o5, .slice a5 b5 d5] rfl rfl ?hnew (seven_one _ _ _ _ _ _ _ _ _) (by decide) (by unfold maxLen; decide) (by decide) ?_; (case hold => exact old_cells HOLD.out hkl _); (case hnew => exact cells_at _ [.int .i64 k5, .int .i64 l5, .int .i64 c5, .int .i64 n5, .string ⟨m5.toArray⟩, .int .i64 o5, .slice a5 b5 d5] _ _ rfl); intro v9 wB hown hgrow; obtain ⟨gb, gc, rfl, hgb, hglt⟩ := hown.form (by decide); obtain ⟨hLB, hkB, hrB, hzB⟩ := put_after HL5.out hRw (by omega) (by omega) HR5.out HAT0.out HAT5.out hown hgrow hRw (by omega); obtain ⟨⟨x0, x1, x2, x3, x4, x5, x6⟩, f0, f1, f2, f3, f4, f5, f6⟩ := seven hLB.laid.blk; obtain ⟨⟨y0, y1, y2, y3, y4, y5, y6⟩, g0, g1, g2, g3, g4, g5, g6⟩ := seven hLB.box; have hlt11 : w1.heap.size < wB.heap.size := (by omega); have hlt12 : w2.heap.size < wB.heap.size := (by omega); have HLB := Lib.hid hLB; have HKB := Lib.hid hkB; have HRB := Lib.hid hrB; clear hLB hkB hrB hown hgrow) | (go_simp; go_at_call 131; refine (HIN.out _ (by repeat (first | exact grown_refl _ | apply grown_drew))).mono ?_; rintro e' w9 ⟨k5, l5, c5, n5, m5, o5, a5, b5, d5, rfl, hat5, hL5, hatE, hr5, hz5⟩; obtain ⟨e0, k6, l6, c6, n6, m6, o6, a6, b6, d6, hkids, hSk, hkl, hat0, hold⟩ := at4' hatE HONE.out; obtain ⟨⟨x0, x1, x2, x3, x4, x5, x6⟩, f0, f1, f2, f3, f4, f5, f6⟩ := seven hL5.laid.blk; obtain ⟨⟨y0, y1, y2, y3, y4, y5, y6⟩, g0, g1, g2, g3, g4, g5, g6⟩ := seven hL5.box; have hlt9 : w1.heap.size < w9.heap.size := (by omega); have hlt10 : w2.heap.size < w9.heap.size := (by omega); have HAT5 := Lib.hid hat5; have HL5 := Lib.hid hL5; have HR5 := Lib.hid hr5; have HAT0 := Lib.hid hat0; have HOLD := Lib.hid hold; have HKI := Lib.hid hkids; clear hat5 hL5 hr5 hatE hat0 hold hkids; unfold cells7))
  all_goals go_wp2_with (fail)
  all_goals
    refine (must_any R g (pExpr part (pExpr part s).2.next).2 [59] _ (by repeat (first | with_reducible (refine Reads.drew ?_) | with_reducible (refine Reads.alloc ?_ _) | with_reducible (refine Reads.set ?_ _ _ (by omega)) | with_reducible (exact HRB.out)))).mono ?_
    rintro e w4 ⟨rfl, hw4, hr4⟩
    have hL4 := (((HLB.out.laid.put 0 (.int .i64 3) (by omega) (by omega)).put 3 (.string ⟨m3.toArray⟩) (by omega) (by omega)).put 4 (.slice (some ⟨gb, 0, none⟩) 2 gc) (by omega) (by omega)).went' hw4 hRw (by omega)
    have hz4 := hw4.size
    simp at hz4
    have hat4 : KidsAt w4 (fun q => w1.heap.size < q) [e0, (pExpr part (pExpr part s).2.next).1] (.slice (some ⟨gb, 0, none⟩) 2 gc) := by
      refine HKB.out.keep (fun q hq hlt => hq) (fun q hq hlt o => ?_)
      have h9 : w1.heap.size < q := hq
      rw [World.cell?_of_block (hw4.block q (by simp; omega) (by simp; omega)), World.cell?_of_block (Below.heap_setCell _ _ _ _ (by show q ≠ w1.heap.size; omega)), World.cell?_of_block (Below.heap_setCell _ _ _ _ (by show q ≠ w1.heap.size; omega)), World.cell?_of_block (Below.heap_setCell _ _ _ _ (by show q ≠ w1.heap.size; omega))]
    have hbk4 : w4.heap[w1.heap.size]? = some (.cells (cellsS 3 s.now.line s.now.col m3 (.slice (some ⟨gb, 0, none⟩) 2 gc) (.slice none 0 0) (.slice none 0 0)) 55 (0, 0)) := hL4.blk
    clear x0 x1 x2 x3 x4 x5 x6 f0 f1 f2 f3 f4 f5 f6 y0 y1 y2 y3 y4 y5 y6 g0 g1 g2 g3 g4 g5 g6
    obtain ⟨x0, x1, x2, x3, x4, x5, x6⟩ := (seven hbk4).1
    obtain ⟨⟨z0, z1, z2, z3, z4, z5, z6⟩, h0, h1, h2, h3, h4, h5, h6⟩ := seven hL4.res
    have HL4 := Lib.hid hL4; have HR4 := Lib.hid hr4
    have HAT4 := Lib.hid (sm_at (does := 3) (line := s.now.line) (col := s.now.col) (name := m3) hat4 (body_none none 0) (body_none none 0))
    have hlt7 : w.heap.size < w4.heap.size := by omega
    have hlt8 : w1.heap.size < w4.heap.size := by omega
    clear hL4 hr4 hw4 hat4 hbk4
    go_wp2_with (fail)
    refine bodyPost_ret (v := .agg (cellsS 3 s.now.line s.now.col m3 (.slice (some ⟨gb, 0, none⟩) 2 gc) (.slice none 0 0) (.slice none 0 0))) (by simp [results, Tryz.results120, go_sem, cellsS, z0, z1, z2, z3, z4, z5, z6]) rfl ?_
    rw [HV.out, HM.out, HKI.out]
    refine sm_end (r := w.heap.size) (S := fun q => w1.heap.size < q) ?_ HAT4.out (fun q hq => ⟨by omega, by omega⟩) (Nat.le_refl _) hRw HL4.out.went HR4.out
    repeat (first | with_reducible (refine Sets.set ?_ _ _) | with_reducible (exact Sets.refl _ _))
end Go.Proofs.YtaomlahphlemdaaGreatDoor
