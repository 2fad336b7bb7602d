/-
  The parser: the chain of term.
-/
import Derived.Test.YtaomlahphlemdaaGreatDoorParF
namespace Go.Proofs.YtaomlahphlemdaaGreatDoor
open Go.ChangeShapes Go.WideShapes Go.ChangeAt Go.RowKit
set_option linter.unusedVariables false

set_option maxHeartbeats 4000000 in
set_option maxRecDepth 100000 in
theorem chain_term (R g n : Nat) (part : Par) (hp : ParOk R g n 146 part) (hf : Fine n part) (xs : List (List UInt8)) (hx : [] ∉ xs) (hxl : xs.length ≤ 1000) (m : Nat) (s : St) (w : World) (hl : s.left.length ≤ n) (hd : s.deep + 2 * s.left.length ≤ 300000) (h : Reads R g s w) (hm : Marks w m xs) (hmw : m < w.heap.size) (hmR : m ≠ R) :
    Calls Tryz.prog 138 #[.pointer (some ⟨R, 0, none⟩), .func (Fn.func 146) #[.pointer (some ⟨R, 0, none⟩)] #[], .slice (some ⟨m, 0, none⟩) xs.length xs.length] w (ExPost R g (chainL part xs s) w) := by
  have HP := Lib.hid hp; have HF := Lib.hid hf; have HX := Lib.hid hx; have HR := Lib.hid h; have HM := Lib.hid hm
  have hRw := h.size
  clear hp hf hx h hm
  generalize hxn : xs.length = xn at hxl
  have HXN := Lib.hid hxn
  clear hxn
  go_enter Tryz.func138, Tryz.ntmps138
  go_wp2_with (fail)
  refine (HP.out s _ hl hd (HR.out.alloc _)).mono ?_
  rintro e w1 ⟨cs, rfl, hat, hw1, hr1⟩
  obtain ⟨k3, l3, c3, n3, m3, o3, a3, b3, d3, rfl⟩ := hat.cells
  have hsz := hw1.size
  simp at hsz
  have hf1 := HF.out s hl
  have HRD := Lib.hid (show Round R g w.heap.size w1.heap.size m s.left.length xs part (chainL part xs s) s.deep w (w1.alloc (.cells (cells7 k3 l3 c3 n3 m3 o3 (.slice a3 b3 d3)) 47)) from
    ⟨⟨hRw, by omega, Nat.le_refl _, by simp⟩, went_alloc ((went_none (grown_alloc _ _)).trans hw1) _, alloc_past _ _ _ _ (by omega) (hw1.keep (alloc_at _ _ _ rfl) (by omega)),
      ⟨HM.out.keep fun p => by
          rw [World.cell?_of_block (Below.heap_alloc _ _ _ (by show m < w1.heap.size; omega)), World.cell?_of_block (hw1.block m (by simp; omega) (by simpa using hmR)), World.cell?_of_block (Below.heap_alloc _ _ _ hmw)], by simp; omega, hmR, by omega, by omega⟩,
      ⟨(part s).2.left.length, (part s).1, (part s).2, _, alloc_at _ _ _ rfl, Ex.At.keep (fun q hq hlt => ⟨by simp at hq; omega, by omega⟩) (fun q _ hlt o => World.cell?_of_block (Below.heap_alloc _ _ _ hlt)) _ _ hat, hr1.alloc _, Nat.le_refl _, by omega, hf1.1, rfl⟩⟩)
  have hb1 : w.heap.size < w1.heap.size := by omega
  clear hat hw1 hr1 hf1 hsz
  unfold cells7
  go_wp2_with (fail)
  go_loopw [] (fun wr => Round R g w.heap.size w1.heap.size m s.left.length xs part (chainL part xs s) s.deep w wr) (fun wr => lenOf wr R)
  case atStart => exact HRD.out
  case round =>
    obtain ⟨hblk, hwent, hres, ⟨hmk, hm1, hm2, hm3, hm4⟩, k, e, s2, cs, hbb, hat, hrd, hlk, hln, hdd, hgoal⟩ := hrel
    have HWT := Lib.hid hwent; have HRS := Lib.hid hres; have HMK := Lib.hid hmk; have HBB := Lib.hid hbb; have HAT := Lib.hid hat; have HRS2 := Lib.hid hrd; have HGO := Lib.hid hgoal
    clear hwent hres hmk hbb hat hgoal HRD
    obtain ⟨hb2, hb3, hb4, hb5⟩ := hblk
    have HDD := Lib.hid hdd; have HLN := Lib.hid hln
    clear hdd
    go_wp2_with (fail)
    have hsee := sees_any R g s2 m xn xs (by rw [HXN.out]; exact hxl) wr HRS2.out HMK.out hm1
    rw [HXN.out] at hsee
    refine hsee.mono ?_
    clear hsee
    rintro e' w2 ⟨rfl, hg2⟩
    have HG2 := Lib.hid hg2
    have hsz2 := hg2.size
    clear hg2
    have hl1 : 1 ≤ s2.left.length := by have := HRS2.out.last.ne; cases hq : s2.left with | nil => exact absurd hq this | cons => simp
    obtain ⟨k, rfl⟩ : ∃ q, k = q + 1 := ⟨k - 1, by omega⟩
    cases hs : s2.sees xs
    · have HGE := Lib.hid (show chainL part xs s = (e, s2) by rw [← HGO.out, chainLoop, hs]; rfl)
      clear hs
      obtain ⟨k4, l4, c4, n4, m4, o4, a4, b4, d4, rfl⟩ := HAT.out.cells
      have hbb2 := (went_none (R := R) HG2.out).keep HBB.out (by omega)
      have hrs2 := (went_none (R := R) HG2.out).keep HRS.out (by omega)
      obtain ⟨⟨x0, x1, x2, x3, x4, x5, x6⟩, _⟩ := seven hbb2
      obtain ⟨⟨z0, z1, z2, z3, z4, z5, z6⟩, f0, f1, f2, f3, f4, f5, f6⟩ := seven hrs2
      clear hbb2 hrs2
      go_wp2_with (fail)
      refine bodyPost_ret (v := .agg (cells7 k4 l4 c4 n4 m4 o4 (.slice a4 b4 d4))) (by simp [results, Tryz.results138, go_sem, cells7, z0, z1, z2, z3, z4, z5, z6]) rfl ?_
      rw [HGE.out]
      refine ex_end (r := w.heap.size) ?_ (HAT.out.grown HG2.out) (fun q hq => ⟨by omega, by omega⟩) (Nat.le_refl _) hb2 (HWT.out.trans (went_none HG2.out)) (HRS2.out.more HG2.out)
      repeat (first | with_reducible (exact Sets.refl _ _) | with_reducible (refine Sets.set ?_ _ _))
    · have hnl := next_len HRS2.out hs HX.out
      have HGE := Lib.hid (show chainLoop part xs k (joinedL s2.now e (part s2.next).1) (part s2.next).2 = chainL part xs s by rw [← HGO.out, chainLoop, hs]; rfl)
      clear hs
      go_wp2_with (fail)
      refine (take_any R g s2 _ (HRS2.out.more HG2.out)).mono ?_
      rintro e' w3 ⟨rfl, hw3, hr3⟩
      have HW3 := Lib.hid hw3; have HR3 := Lib.hid hr3
      have hsz3 := hw3.size
      clear hw3 hr3
      unfold tokAgg
      go_wp2_with (fail)
      obtain ⟨k4, l4, c4, n4, m4, o4, a4, b4, d4, rfl⟩ := HAT.out.cells
      generalize hW : w3.alloc (.cells #[.int .i64 s2.now.kind, .string ⟨s2.now.text.toArray⟩, .int .i64 s2.now.num, .int .i64 s2.now.line, .int .i64 s2.now.col] 132) = W
      have hg3 : w3.grownBy W none := by rw [← hW]; exact grown_alloc _ _
      have htok : W.heap[w3.heap.size]? = some (.cells (tokCells s2.now) 132 (0, 0)) := by rw [← hW]; exact alloc_at _ _ _ rfl
      have hsW : W.heap.size = w3.heap.size + 1 := by rw [← hW]; simp
      clear hW
      have hgo : Went R wr W := ((went_none HG2.out).trans HW3.out).trans (went_none hg3)
      have hblk : W.heap[w1.heap.size]? = some (.cells (cells7 k4 l4 c4 n4 m4 o4 (.slice a4 b4 d4)) 47 (0, 0)) := hgo.keep HBB.out (by omega)
      have hres : W.heap[w.heap.size]? = some (.cells zero7 47 (0, 0)) := hgo.keep HRS.out (by omega)
      have hate : e.At W (fun q => w.heap.size < q ∧ q ≠ w1.heap.size) (cells7 k4 l4 c4 n4 m4 o4 (.slice a4 b4 d4)) := Ex.At.keep (fun q h _ => h) (fun q h hlt o => World.cell?_of_block (hgo.block q hlt (by simp; omega))) _ _ HAT.out
      have hf2 := HF.out s2.next (by omega)
      have HF2 := Lib.hid hf2; have HNL := Lib.hid hnl
      have HPI := Lib.hid (part_in (r := w.heap.size) (b := w1.heap.size) (tb := w3.heap.size) HP.out (by omega) (by have := HDD.out; omega) (HR3.out.more hg3) htok hblk hate hb2 (by omega) (by omega) (by omega))
      obtain ⟨y0, y1, y2, y3, y4⟩ := five htok
      obtain ⟨x0, x1, x2, x3, x4, x5, x6⟩ := (seven hblk).1
      have HGO2 := Lib.hid hgo; have HRES := Lib.hid hres
      have hbW : w1.heap.size < W.heap.size := by omega
      have hrW : w.heap.size < W.heap.size := by omega
      clear hg3 htok hblk hres hate hgo HR3 HBB HAT
      go_region_with ((first
        | (go_at_call 146; refine (HPI.out _ (by repeat (first | exact grown_refl _ | apply grown_drew))).mono ?_; rintro e' w9 ⟨k5, l5, c5, n5, m5, o5, a5, b5, d5, rfl, hpin⟩; obtain ⟨y0, y1, y2, y3, y4⟩ := five hpin.tok; obtain ⟨x0, x1, x2, x3, x4, x5, x6⟩ := (seven hpin.blk).1; have hz9 := hpin.went.size; have HPN := Lib.hid hpin; clear hpin; unfold cells7)
        | (go_at_call 140; refine (join_in HPN.out (by omega) (by omega) _ (by repeat (first | exact grown_refl _ | apply grown_drew))).mono ?_; rintro e' w10 ⟨k6, l6, c6, n6, m6, o6, a6, b6, d6, rfl, hjin⟩; obtain ⟨⟨v0, v1, v2, v3, v4, v5, v6⟩, f0, f1, f2, f3, f4, f5, f6⟩ := seven hjin.blk; have HJN := Lib.hid hjin; clear hjin; unfold cells7)))
      all_goals go_roundw
      all_goals try (
        case measure =>
          refine Nat.lt_of_le_of_lt (Nat.le_of_eq (len_next HJN.out ?_ (by omega))) (by rw [lenOf_reads HRS2.out]; have := HF2.out; have := HNL.out; omega)
          repeat (first | with_reducible (exact Sets.refl _ _) | with_reducible (refine Sets.set ?_ _ _) | with_reducible (refine Sets.drew ?_)))
      all_goals
        refine ⟨_, _, _, _, _, _, _, _, _, _, _, round_next (k := k) (n := s.left.length) (d := s.deep) HJN.out ?_ (set7 _ _ _ _ _ _ _ HJN.out.blk) HGO2.out HWT.out HRS.out HMK.out hm1 hm2 hm3 hm4 hb2 hb3 hb4 hb5 (by have := HF2.out; have := HNL.out; omega) (by have := HF2.out; have := HNL.out; have := HLN.out; omega) (by have := HF2.out; have := HNL.out; have := HDD.out; omega) HGE.out, rfl⟩
        repeat (first | with_reducible (exact Sets.refl _ _) | with_reducible (refine Sets.set ?_ _ _) | with_reducible (refine Sets.drew ?_))
end Go.Proofs.YtaomlahphlemdaaGreatDoor
