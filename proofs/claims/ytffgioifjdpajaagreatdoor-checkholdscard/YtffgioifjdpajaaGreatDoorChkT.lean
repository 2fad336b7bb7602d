/-
  The checker: Text.
-/
import Derived.Test.YtffgioifjdpajaaGreatDoorChkS
namespace Go.Proofs.YtffgioifjdpajaaGreatDoor
open Go.ChangeShapes Go.WideShapes Go.ChangeAt Go.RowKit
set_option linter.unusedVariables false

/-- What check.Text says of a text: its fault. -/
def ckTx (l : List UInt8) : Int × Int × Int := if (parseL l).2.1 = 0 then errOf (ckProg (parseL l).1) else (parseL l).2
def TextPost (l : List UInt8) (w : World) (e : Ending) (w' : World) : Prop :=
  ∃ cs i1 i2, e = .returned (.tuple #[.agg cs, .agg #[i1, i2], .agg #[.int .i64 (ckTx l).1, .int .i64 (ckTx l).2.1, .int .i64 (ckTx l).2.2]]) ∧ w.grownBy w' none ∧
    (if (ckTx l).1 = 0 then (parseL l).1.At w' (w.heap.size ≤ ·) cs ∧ InfoAt w' (ckProg (parseL l).1) i1 i2 else cs = zeroP ∧ i1 = .map none ∧ i2 = .map none)
theorem Ground.more {w w' : World} (h : Ground w) (hg : w.grownBy w' none) : Ground w' := by
  have hlow := h.signs.1
  exact h.later hlow (below_grown hg (Nat.le_refl _))
def zeroIn : Array Value := #[.map none, .map none]
/-- The three places of Text's answers. -/
structure Out3 (w W : World) : Prop where
  grown : w.grownBy W none
  prog : W.heap[w.heap.size]? = some (.cells zeroP 25 (0, 0))
  info : W.heap[w.heap.size + 1]? = some (.cells zeroIn 30 (0, 0))
  fault : W.heap[w.heap.size + 2]? = some (.cells zeroFt 35 (0, 0))
theorem Out3.more {w W W' : World} (h : Out3 w W) (hg : W.grownBy W' none) : Out3 w W' :=
  ⟨grown_trans h.grown hg, (hg.block _ (Array.getElem?_eq_some_iff.1 h.prog).1 (by simp)).trans h.prog, (hg.block _ (Array.getElem?_eq_some_iff.1 h.info).1 (by simp)).trans h.info, (hg.block _ (Array.getElem?_eq_some_iff.1 h.fault).1 (by simp)).trans h.fault⟩
theorem out3_new (w : World) : Out3 w (((w.alloc (.cells zeroP 25)).alloc (.cells zeroIn 30)).alloc (.cells zeroFt 35)) :=
  ⟨grown_trans (grown_trans (grown_alloc _ _) (grown_alloc _ _)) (grown_alloc _ _), alloc_past _ _ _ _ (by simp; omega) (alloc_past _ _ _ _ (by simp) (alloc_at _ _ _ rfl)), alloc_past _ _ _ _ (by simp) (alloc_at _ _ _ (by simp)), alloc_at _ _ _ (by simp)⟩
set_option maxHeartbeats 4000000 in
set_option maxRecDepth 100000 in
theorem text_bad (s : ByteArray) (hs : s.size ≤ 65536) (hx : (parseL s.data.toList).2.1 ≠ 0) (w : World) (hg : Ground w) : Calls Tryz.prog 16 #[.string s] w (TextPost s.data.toList w) := by
  have hv : ckTx s.data.toList = (parseL s.data.toList).2 := by unfold ckTx; rw [if_neg hx]
  have HV := Lib.hid hv; have HX := Lib.hid hx; have HG := Lib.hid hg
  clear hv hx hg
  go_enter Tryz.func16, Tryz.ntmps16
  go_wp2_with (fail)
  refine (Program_any s hs _ (HG.out.more (out3_new w).grown).signs).mono ?_
  rintro e w1 ⟨cs, rfl, hat, hg1⟩
  obtain ⟨a1, a2, a3, b1, b2, b3, rfl⟩ := hat.cells
  have hO : Out3 w w1 := (out3_new w).more hg1
  have HT := Lib.hid (show TextPost s.data.toList w = fun e w' => ∃ cs i1 i2, e = .returned (.tuple #[.agg cs, .agg #[i1, i2], .agg #[.int .i64 (parseL s.data.toList).2.1, .int .i64 (parseL s.data.toList).2.2.1, .int .i64 (parseL s.data.toList).2.2.2]]) ∧ w.grownBy w' none ∧ (cs = zeroP ∧ i1 = .map none ∧ i2 = .map none) by
    funext e w'
    unfold TextPost
    simp only [HV.out, if_neg HX.out])
  have q0 : ((parseL s.data.toList).2.1 != 0) = true := by simpa using HX.out
  clear HV HX hat
  generalize (parseL s.data.toList).2.1 = x1 at *
  generalize (parseL s.data.toList).2.2.1 = x2 at *
  generalize (parseL s.data.toList).2.2.2 = x3 at *
  have hl2 := (Array.getElem?_eq_some_iff.1 hO.fault).1
  have hl1 : w.heap.size + 1 < w1.heap.size := by omega
  have hl0 : w.heap.size < w1.heap.size := by omega
  obtain ⟨⟨p0, p1⟩, pf0, pf1⟩ := two hO.prog
  obtain ⟨⟨i0, i1⟩, if0, if1⟩ := two hO.info
  obtain ⟨⟨u0, u1, u2⟩, uf0, uf1, uf2⟩ := three hO.fault
  have HO := Lib.hid hO
  clear hg1 hO
  go_wp2_with (fail)
  go_region
  all_goals go_wp2_with (fail)
  all_goals
    refine bodyPost_ret (v := .tuple #[.agg zeroP, .agg zeroIn, .agg #[.int .i64 x1, .int .i64 x2, .int .i64 x3]]) (by simp [results, Tryz.results16, go_sem, zeroP, zeroIn, p0, p1, i0, i1, u0, u1, u2, hl0, hl1, hl2]) rfl ?_
    rw [HT.out]
    refine ⟨_, _, _, rfl, ?_, rfl, rfl, rfl⟩
    repeat (first | with_reducible (refine grown_drew ?_) | with_reducible (refine grown_put ?_ _ _ (by omega)) | with_reducible (refine grown_trans ?_ (grown_alloc _ _)) | with_reducible (exact HO.out.grown))
set_option maxHeartbeats 8000000 in
set_option maxRecDepth 100000 in
theorem text_ok (s : ByteArray) (hs : s.size ≤ 65536) (hx : (parseL s.data.toList).2.1 = 0) (hfit : prFit (parseL s.data.toList).1 = true) (w : World) (hg : Ground w) : Calls Tryz.prog 16 #[.string s] w (TextPost s.data.toList w) := by
  have hz : (parseL s.data.toList).2 = (0, 0, 0) := by
    unfold parseL at hx ⊢
    cases hl : lexL s.data.toList with
    | error x => rw [hl] at hx; exact absurd hx (goL_bad _ _ _ _ _ _ hl)
    | ok ts =>
      rw [hl] at hx
      simp only at hx ⊢
      split
      · rfl
      · rename_i hne
        rw [if_neg hne] at hx
        exact absurd hx hne
  have hv : ckTx s.data.toList = errOf (ckProg (parseL s.data.toList).1) := by unfold ckTx; rw [if_pos hx]
  have HZ := Lib.hid hz; have HV := Lib.hid hv; have HX := Lib.hid hx; have HG := Lib.hid hg; have HFIT := Lib.hid hfit
  clear hv hx hg hz hfit
  go_enter Tryz.func16, Tryz.ntmps16
  go_wp2_with (fail)
  refine (Program_any s hs _ (HG.out.more (out3_new w).grown).signs).mono ?_
  rintro e w1 ⟨cs, rfl, hat, hg1⟩
  obtain ⟨a1, a2, a3, b1, b2, b3, rfl⟩ := hat.cells
  have hO : Out3 w w1 := (out3_new w).more hg1
  rw [HZ.out]
  dsimp only
  have HTP := Lib.hid (show TextPost s.data.toList w = fun e w' => ∃ cs i1 i2, e = .returned (.tuple #[.agg cs, .agg #[i1, i2], .agg #[.int .i64 (errOf (ckProg (parseL s.data.toList).1)).1, .int .i64 (errOf (ckProg (parseL s.data.toList).1)).2.1, .int .i64 (errOf (ckProg (parseL s.data.toList).1)).2.2]]) ∧ w.grownBy w' none ∧
    (if (errOf (ckProg (parseL s.data.toList).1)).1 = 0 then (parseL s.data.toList).1.At w' (w.heap.size ≤ ·) cs ∧ InfoAt w' (ckProg (parseL s.data.toList).1) i1 i2 else cs = zeroP ∧ i1 = .map none ∧ i2 = .map none) by
    funext e w'
    unfold TextPost
    rw [HV.out])
  generalize (parseL s.data.toList).1 = p at *
  have HAT := Lib.hid hat; have HO := Lib.hid hO
  have hsz := hO.grown.size
  have hl2 := (Array.getElem?_eq_some_iff.1 hO.fault).1
  clear hat hO hg1
  go_wp2_with (fail)
  have hg5 : w1.grownBy ((w1.alloc (.cells #[.slice a1 a2 a3, .slice b1 b2 b3] 25)).alloc (.cells #[.int .i64 0, .int .i64 0, .int .i64 0] 35)) none := grown_trans (grown_alloc _ _) (grown_alloc _ _)
  have hb5 : ((w1.alloc (.cells #[.slice a1 a2 a3, .slice b1 b2 b3] 25)).alloc (.cells #[.int .i64 0, .int .i64 0, .int .i64 0] 35)).heap[w1.heap.size]? = some (.cells #[.slice a1 a2 a3, .slice b1 b2 b3] 25 (0, 0)) := alloc_past _ _ _ _ (by simp) (alloc_at _ _ _ rfl)
  have hb6 : ((w1.alloc (.cells #[.slice a1 a2 a3, .slice b1 b2 b3] 25)).alloc (.cells #[.int .i64 0, .int .i64 0, .int .i64 0] 35)).heap[w1.heap.size + 1]? = some (.cells #[.int .i64 0, .int .i64 0, .int .i64 0] 35 (0, 0)) := alloc_at _ _ _ (by simp)
  have hat5 : p.At ((w1.alloc (.cells #[.slice a1 a2 a3, .slice b1 b2 b3] 25)).alloc (.cells #[.int .i64 0, .int .i64 0, .int .i64 0] 35)) (· < ((w1.alloc (.cells #[.slice a1 a2 a3, .slice b1 b2 b3] 25)).alloc (.cells #[.int .i64 0, .int .i64 0, .int .i64 0] 35)).heap.size) #[.slice a1 a2 a3, .slice b1 b2 b3] :=
    HAT.out.keep hg5.size (fun q _ hq => Nat.lt_of_lt_of_le hq hg5.size) (fun q _ hq o => World.cell?_of_block (hg5.block q hq (by simp)))
  have HO5 := Lib.hid (HO.out.more hg5)
  have hs5 : ((w1.alloc (.cells #[.slice a1 a2 a3, .slice b1 b2 b3] 25)).alloc (.cells #[.int .i64 0, .int .i64 0, .int .i64 0] 35)).heap.size = w1.heap.size + 2 := by simp
  generalize ((w1.alloc (.cells #[.slice a1 a2 a3, .slice b1 b2 b3] 25)).alloc (.cells #[.int .i64 0, .int .i64 0, .int .i64 0] 35)) = W5 at *
  refine (program_ck HFIT.out hat5).mono ?_
  rintro e w2 ⟨j1, j2, rfl, hg6, hin⟩
  have HO6 := Lib.hid (HO5.out.more hg6)
  have hc5 := (hg6.block _ (show w1.heap.size < W5.heap.size by omega) (by simp)).trans hb5
  have hc6 := (hg6.block _ (show w1.heap.size + 1 < W5.heap.size by omega) (by simp)).trans hb6
  have hat6 := HAT.out.keep (w' := w2) (S' := (w.heap.size ≤ ·)) (grown_trans hg5 hg6).size (fun q hq _ => by have h9 : (((w.alloc (.cells zeroP 25)).alloc (.cells zeroIn 30)).alloc (.cells zeroFt 35)).heap.size ≤ q := hq; simp at h9; show w.heap.size ≤ q; omega) (fun q _ hq o => World.cell?_of_block ((grown_trans hg5 hg6).block q hq (by simp)))
  have HIN := Lib.hid hin; have HAT6 := Lib.hid hat6
  have hs6 := hg6.size
  obtain ⟨⟨p0, p1⟩, pf0, pf1⟩ := two HO6.out.prog
  obtain ⟨⟨i0, i1⟩, if0, if1⟩ := two HO6.out.info
  obtain ⟨⟨u0, u1, u2⟩, uf0, uf1, uf2⟩ := three HO6.out.fault
  obtain ⟨⟨y0, y1⟩, _, _⟩ := two hc5
  obtain ⟨⟨z0, z1, z2⟩, zf0, zf1, zf2⟩ := three hc6
  have hm0 : w.heap.size < w2.heap.size := by omega
  have hm1 : w.heap.size + 1 < w2.heap.size := by omega
  have hm2 : w.heap.size + 2 < w2.heap.size := by omega
  have hm3 : w1.heap.size < w2.heap.size := by omega
  have hm4 : w1.heap.size + 1 < w2.heap.size := by omega
  have hd0 : w.heap.size + 3 ≤ w1.heap.size := by omega
  have HKT := Lib.hid (fun q (hq : q < w1.heap.size) (o : Nat) => show w2.cell? ⟨q, o, none⟩ = w1.cell? ⟨q, o, none⟩ from World.cell?_of_block ((grown_trans hg5 hg6).block q hq (by simp)))
  have HC6 := Lib.hid hc6
  have hd1 : w1.heap.size + 1 ≠ w.heap.size := by omega
  have hd2 : w1.heap.size + 1 ≠ w.heap.size + 1 := by omega
  have hd3 : w1.heap.size + 1 ≠ w.heap.size + 1 + 1 := by omega
  have hm2' : w.heap.size + 1 + 1 < w2.heap.size := by omega
  clear hat5 hat6 hin hc5 hc6 hb5 hb6 hg5 hg6 hs5 hs6 HV HX HZ
  generalize hk : ckProg p = k at *
  by_cases he : k.err = 0
  · have HX := Lib.hid (show TextPost s.data.toList w = fun e w' => ∃ cs i1 i2, e = .returned (.tuple #[.agg cs, .agg #[i1, i2], .agg #[.int .i64 0, .int .i64 0, .int .i64 0]]) ∧ w.grownBy w' none ∧ p.At w' (w.heap.size ≤ ·) cs ∧ InfoAt w' k i1 i2 by
      rw [HTP.out]
      simp only [errOf, if_pos he, ite_true])
    have HIN2 := Lib.hid (show ∃ G F, j1 = .map (some G) ∧ j2 = .map (some F) ∧ NM 3 w2 G k.gm ∧ NM 3 w2 F k.fm by have := HIN.out; unfold InfoAt at this; rwa [if_pos he] at this)
    have HE := Lib.hid (show errOf k = (0, 0, 0) by unfold errOf; rw [if_pos he])
    have HERR := Lib.hid he
    rw [HE.out]
    dsimp only
    obtain ⟨G, F, rfl, rfl, hn1, hn2⟩ := HIN2.out
    have HN1 := Lib.hid hn1; have HN2 := Lib.hid hn2
    clear he hk hn1 hn2 HIN2 HIN HE HTP
    go_wp2_with (fail)
    go_region
    all_goals go_wp2_with (fail)
    all_goals
      refine bodyPost_ret (v := .tuple #[.agg #[.slice a1 a2 a3, .slice b1 b2 b3], .agg #[.map (some G), .map (some F)], .agg #[.int .i64 0, .int .i64 0, .int .i64 0]]) (by simp [results, Tryz.results16, go_sem, p0, p1, i0, i1, u0, u1, u2, hm0, hm1, hm2']) rfl ?_
      rw [HX.out]
      have ht : Turn (fun q => q = w1.heap.size + 1 ∨ q = w.heap.size ∨ q = w.heap.size + 1 ∨ q = w.heap.size + 1 + 1) w2 (((((((((((((w2.setCell ⟨w1.heap.size + 1, 0, none⟩ (.int .i64 0)).setCell ⟨w1.heap.size + 1, 1, none⟩ (.int .i64 0)).setCell ⟨w1.heap.size + 1, 2, none⟩ (.int .i64 0)).setCell ⟨w.heap.size, 0, none⟩ (.slice a1 a2 a3)).setCell ⟨w.heap.size, 1, none⟩ (.slice b1 b2 b3)).setCell ⟨w.heap.size + 1, 0, none⟩ (.map (some G))).setCell ⟨w.heap.size + 1, 1, none⟩ (.map (some F))).setCell ⟨w.heap.size + 1 + 1, 0, none⟩ (.int .i64 0)).setCell ⟨w.heap.size + 1 + 1, 1, none⟩ (.int .i64 0)).setCell ⟨w.heap.size + 1 + 1, 2, none⟩ (.int .i64 0)).alloc (.cells #[.map (some G), .map (some F)] 30)).drew)) := by
        repeat (first | with_reducible (refine Turn.drew ?_) | with_reducible (refine Turn.alloc ?_ _) | with_reducible (refine Turn.put ?_ _ _ _ (.inl (by omega))) | with_reducible (exact Turn.refl _ _))
      refine ⟨_, _, _, rfl, ?_, ?_, ?_⟩
      · repeat (first | with_reducible (refine grown_drew ?_) | with_reducible (refine grown_put ?_ _ _ (by omega)) | with_reducible (refine grown_trans ?_ (grown_alloc _ _)) | with_reducible (exact HO6.out.grown))
      · refine HAT.out.keep (Nat.le_trans (Nat.le_of_lt hm3) ht.size) (fun q hq _ => ?_) (fun q hq hl o => ?_)
        · have h9 : (((w.alloc (.cells zeroP 25)).alloc (.cells zeroIn 30)).alloc (.cells zeroFt 35)).heap.size ≤ q := hq
          simp at h9; show w.heap.size ≤ q; omega
        · have h9 : (((w.alloc (.cells zeroP 25)).alloc (.cells zeroIn 30)).alloc (.cells zeroFt 35)).heap.size ≤ q := hq
          simp at h9
          exact (ht.cell (by omega) (by omega) o).trans (HKT.out q hl o)
      · unfold InfoAt
        rw [if_pos HERR.out]
        have m1 := map_ne HN1.out HC6.out
        have m2 := map_ne HN1.out HO6.out.prog
        have m3 := map_ne HN1.out HO6.out.info
        have m4 := map_ne HN1.out HO6.out.fault
        have n1 := map_ne HN2.out HC6.out
        have n2 := map_ne HN2.out HO6.out.prog
        have n3 := map_ne HN2.out HO6.out.info
        have n4 := map_ne HN2.out HO6.out.fault
        exact ⟨_, _, rfl, rfl, HN1.out.keep (ht.block _ HN1.out.lt (by omega)), HN2.out.keep (ht.block _ HN2.out.lt (by omega))⟩
  · have q0 : (k.err != 0) = true := by simpa using he
    have HX := Lib.hid (show TextPost s.data.toList w = fun e w' => ∃ cs i1 i2, e = .returned (.tuple #[.agg cs, .agg #[i1, i2], .agg #[.int .i64 k.err, .int .i64 k.line, .int .i64 k.col]]) ∧ w.grownBy w' none ∧ cs = zeroP ∧ i1 = .map none ∧ i2 = .map none by
      rw [HTP.out]
      simp only [errOf, if_neg he])
    have HIN2 := Lib.hid (show j1 = .map none ∧ j2 = .map none by have := HIN.out; unfold InfoAt at this; rwa [if_neg he] at this)
    have HE := Lib.hid (show errOf k = (k.err, k.line, k.col) by unfold errOf; rw [if_neg he])
    rw [HE.out]
    dsimp only
    obtain ⟨rfl, rfl⟩ := HIN2.out
    clear he hk HIN2 HIN HE HTP
    generalize k.err = x1 at *
    generalize k.line = x2 at *
    generalize k.col = x3 at *
    go_wp2_with (fail)
    go_region
    all_goals go_wp2_with (fail)
    all_goals
      refine bodyPost_ret (v := .tuple #[.agg zeroP, .agg zeroIn, .agg #[.int .i64 x1, .int .i64 x2, .int .i64 x3]]) (by simp [results, Tryz.results16, go_sem, zeroP, zeroIn, p0, p1, i0, i1, u0, u1, u2, hm0, hm1, hm2']) rfl ?_
      rw [HX.out]
      refine ⟨_, _, _, rfl, ?_, rfl, rfl, rfl⟩
      repeat (first | with_reducible (refine grown_drew ?_) | with_reducible (refine grown_put ?_ _ _ (by omega)) | with_reducible (refine grown_trans ?_ (grown_alloc _ _)) | with_reducible (exact HO6.out.grown))
theorem text_any (s : ByteArray) (hs : s.size ≤ 65536) (hfit : (parseL s.data.toList).2.1 = 0 → prFit (parseL s.data.toList).1 = true) (w : World) (hg : Ground w) : Calls Tryz.prog 16 #[.string s] w (TextPost s.data.toList w) := by
  by_cases hx : (parseL s.data.toList).2.1 = 0
  · exact text_ok s hs hx (hfit hx) w hg
  · exact text_bad s hs hx w hg
end Go.Proofs.YtffgioifjdpajaaGreatDoor
