/-
  The parser: comparisons, and.
-/
import Derived.Test.YtaomlahphlemdaaGreatDoorParH
import Derived.Test.YtaomlahphlemdaaGreatDoorParGc
namespace Go.Proofs.YtaomlahphlemdaaGreatDoor
open Go.ChangeShapes Go.WideShapes Go.ChangeAt Go.RowKit
set_option linter.unusedVariables false

def relMarks : List (List UInt8) := [[61, 61], [33, 61], [60], [60, 61], [62], [62, 61]]
def pRel (sum : Par) : Par := fun s => if (sum s).2.sees relMarks then (joinedL (sum s).2.now (sum s).1 (sum (sum s).2.next).1, (sum (sum s).2.next).2) else sum s
theorem rel_fine {n : Nat} {sum : Par} (hf : Fine n sum) : Fine n (pRel sum) := fun s h => by
  have h1 := hf s h
  have h2 := (sum s).2.next_fine
  have h3 := hf (sum s).2.next (by omega)
  unfold pRel
  split
  · exact ⟨by rw [h3.1, h2.1, h1.1], by simp only; omega⟩
  · exact h1

/-- Only the cells of blocks r and b have turned. -/
structure Sets2 (r b : Nat) (w w' : World) : Prop where
  keep : ∀ k, k ≠ r → k ≠ b → w'.heap[k]? = w.heap[k]?
  size : w'.heap.size = w.heap.size
  os : w'.os = w.os
  tape : w'.tape = w.tape
  output : w'.output = w.output
theorem Sets2.refl (r b : Nat) (w : World) : Sets2 r b w w := ⟨fun _ _ _ => rfl, rfl, rfl, rfl, rfl⟩
theorem Sets2.set {r b : Nat} {w w' : World} (h : Sets2 r b w w') (j : Nat) (v : Value) : Sets2 r b w (w'.setCell ⟨r, j, none⟩ v) :=
  ⟨fun k hk hb => (Below.heap_setCell _ _ _ _ hk).trans (h.keep k hk hb), by have := h.size; simpa using this, h.os, h.tape, h.output⟩
theorem Sets2.set' {r b : Nat} {w w' : World} (h : Sets2 r b w w') (j : Nat) (v : Value) : Sets2 r b w (w'.setCell ⟨b, j, none⟩ v) :=
  ⟨fun k hk hb => (Below.heap_setCell _ _ _ _ hb).trans (h.keep k hk hb), by have := h.size; simpa using this, h.os, h.tape, h.output⟩
theorem Sets2.drew {r b : Nat} {w w' : World} (h : Sets2 r b w w') : Sets2 r b w w'.drew := ⟨h.keep, h.size, h.os, h.tape, h.output⟩
theorem rel_end {R g r b : Nat} {p : Ex} {s : St} {cp ce : Array Value} {w W w10 w12 : World} (hs : Sets2 r b w10 w12) (h : JIn R g r b p s cp ce W w10) (hR : R < r) (hrb : r < b) (hw : Went R w W) (hb : w.heap.size ≤ r) : ExPost R g (p, s) w (.returned (.agg cp)) w12 := by
  have hwt := hw.trans h.went
  have h1 := h.reads.lt; have h2 := h.reads.low
  obtain ⟨o, cap, a1, a2, a3⟩ := h.reads.row
  refine ⟨cp, rfl, Ex.At.keep (fun q hq _ => by omega) (fun q hq _ o => World.cell?_of_block (hs.keep q (by omega) hq.2)) _ _ h.atp,
    ⟨hs.os.trans hwt.os, hs.tape.trans hwt.tape, hs.output.trans hwt.output, by rw [hs.size]; exact hwt.size, fun k hk hne => (hs.keep k (by omega) (by omega)).trans (hwt.block k hk hne)⟩,
    ⟨h.reads.lt, ⟨o, cap, (hs.keep R (by omega) (by omega)).trans a1, a2, a3.keep fun q => World.cell?_of_block (hs.keep g (by omega) (by omega))⟩, h.reads.last, h.reads.len, h.reads.deep, h.reads.low, h.reads.signs.keep (by rw [hs.size]; exact Nat.le_refl _) fun q => World.cell?_of_block (hs.keep 1 (by omega) (by omega))⟩⟩

set_option maxHeartbeats 4000000 in
set_option maxRecDepth 100000 in
theorem rel_any {R g n : Nat} {part : Par} (hp : ParOk R g n 144 part) (hf : Fine n part) : ParOk R g n 141 (pRel part) := by
  intro s w hl hd h
  have HP := Lib.hid hp; have HF := Lib.hid hf; have HR := Lib.hid h
  have hRw := h.size
  clear hp hf h
  go_enter Tryz.func141, Tryz.ntmps141
  go_wp2_with (fail)
  refine (HP.out s _ hl hd (HR.out.alloc _)).mono ?_
  rintro e w1 ⟨cs, rfl, hat, hw1, hr1⟩
  obtain ⟨k4, l4, c4, n4, m4, o4, a4, b4, d4, rfl⟩ := hat.cells
  have hsz := hw1.size
  simp at hsz
  have hb1 : w.heap.size < w1.heap.size := by omega
  have hf1 := HF.out s hl
  have HF1 := Lib.hid hf1; have HAT := Lib.hid hat; have HW1 := Lib.hid hw1; have HR1 := Lib.hid hr1
  clear hat hw1 hr1 hf1 hsz
  unfold cells7
  go_wp2_with (fail)
  generalize hW : (w1.alloc (.cells #[.int .i64 k4, .int .i64 l4, .int .i64 c4, .int .i64 n4, .string ⟨m4.toArray⟩, .int .i64 o4, .slice a4 b4 d4] 47)).alloc (.cells #[.string ⟨#[61, 61]⟩, .string ⟨#[33, 61]⟩, .string ⟨#[60]⟩, .string ⟨#[60, 61]⟩, .string ⟨#[62]⟩, .string ⟨#[62, 61]⟩] 9) = W
  have hg : w1.grownBy W none := by rw [← hW]; exact grown_trans (grown_alloc _ _) (grown_alloc _ _)
  have hblk : W.heap[w1.heap.size]? = some (.cells (cells7 k4 l4 c4 n4 m4 o4 (.slice a4 b4 d4)) 47 (0, 0)) := by rw [← hW]; exact alloc_past _ _ _ _ (by simp) (alloc_at _ _ _ rfl)
  have hmk : Marks W (w1.heap.size + 1) relMarks := by rw [← hW]; exact marks_of (alloc_at _ _ _ (by simp))
  have hsW : W.heap.size = w1.heap.size + 2 := by rw [← hW]; simp
  clear hW
  have hwt : Went R w W := ((went_none (grown_alloc _ _)).trans HW1.out).trans (went_none hg)
  have hres : W.heap[w.heap.size]? = some (.cells zero7 47 (0, 0)) := (went_none (R := R) hg).keep (HW1.out.keep (alloc_at _ _ _ rfl) (by omega)) (by omega)
  have hate : (part s).1.At W (fun q => w.heap.size < q ∧ q ≠ w1.heap.size) (cells7 k4 l4 c4 n4 m4 o4 (.slice a4 b4 d4)) :=
    Ex.At.keep (fun q h hlt => ⟨by have h' : (w.alloc _).heap.size ≤ q := h; simp at h'; omega, by omega⟩) (fun q _ hlt o => World.cell?_of_block (hg.block q hlt (by simp))) _ _ HAT.out
  have HRW := Lib.hid (HR1.out.more hg); have HWT := Lib.hid hwt; have HRES := Lib.hid hres; have HBLK := Lib.hid hblk; have HATE := Lib.hid hate; have HMK := Lib.hid hmk
  clear hg hmk hwt hres hblk hate HAT HW1 HR1
  refine (sees_any R g (part s).2 (w1.heap.size + 1) 6 relMarks (by decide) W HRW.out HMK.out (by omega)).mono ?_
  rintro e' w2 ⟨rfl, hg2⟩
  have hsz2 := hg2.size
  have HG2 := Lib.hid hg2
  clear hg2
  cases hs : (part s).2.sees relMarks
  · have HV := Lib.hid (show pRel part s = part s by unfold pRel; rw [hs]; rfl)
    clear hs
    have hbb2 := (went_none (R := R) HG2.out).keep HBLK.out (by omega)
    have hrs2 := (went_none (R := R) HG2.out).keep HRES.out (by omega)
    obtain ⟨x0, x1, x2, x3, x4, x5, x6⟩ := (seven hbb2).1
    obtain ⟨⟨z0, z1, z2, z3, z4, z5, z6⟩, f0, f1, f2, f3, f4, f5, f6⟩ := seven hrs2
    have hlt2 : w.heap.size < w2.heap.size := by omega
    have hlt3 : w1.heap.size < w2.heap.size := by omega
    clear hbb2 hrs2
    go_wp2_with (fail)
    refine bodyPost_ret (v := .agg (cells7 k4 l4 c4 n4 m4 o4 (.slice a4 b4 d4))) (by simp [results, Tryz.results141, go_sem, cells7, z0, z1, z2, z3, z4, z5, z6]) rfl ?_
    rw [HV.out]
    refine ex_end (r := w.heap.size) ?_ (HATE.out.grown HG2.out) (fun q hq => ⟨by omega, by omega⟩) (Nat.le_refl _) hRw (HWT.out.trans (went_none HG2.out)) (HRW.out.more HG2.out)
    repeat (first | with_reducible (exact Sets.refl _ _) | with_reducible (refine Sets.set ?_ _ _))
  · have hnl := next_len HRW.out hs (by decide)
    have HV := Lib.hid (show pRel part s = (joinedL (part s).2.now (part s).1 (part (part s).2.next).1, (part (part s).2.next).2) by unfold pRel; rw [hs]; rfl)
    clear hs
    go_wp2_with (fail)
    refine (take_any R g (part s).2 _ (HRW.out.more HG2.out)).mono ?_
    rintro e' w3 ⟨rfl, hw3, hr3⟩
    have HW3 := Lib.hid hw3; have HR3 := Lib.hid hr3
    have hsz3 := hw3.size
    clear hw3 hr3
    unfold tokAgg
    go_wp2_with (fail)
    generalize hX : w3.alloc (.cells #[.int .i64 (part s).2.now.kind, .string ⟨(part s).2.now.text.toArray⟩, .int .i64 (part s).2.now.num, .int .i64 (part s).2.now.line, .int .i64 (part s).2.now.col] 132) = X
    have hg3 : w3.grownBy X none := by rw [← hX]; exact grown_alloc _ _
    have htok : X.heap[w3.heap.size]? = some (.cells (tokCells (part s).2.now) 132 (0, 0)) := by rw [← hX]; exact alloc_at _ _ _ rfl
    have hsX : X.heap.size = w3.heap.size + 1 := by rw [← hX]; simp
    clear hX
    have hgo : Went R W X := ((went_none HG2.out).trans HW3.out).trans (went_none hg3)
    have hblk : X.heap[w1.heap.size]? = some (.cells (cells7 k4 l4 c4 n4 m4 o4 (.slice a4 b4 d4)) 47 (0, 0)) := hgo.keep HBLK.out (by omega)
    have hres : X.heap[w.heap.size]? = some (.cells zero7 47 (0, 0)) := hgo.keep HRES.out (by omega)
    have hate : (part s).1.At X (fun q => w.heap.size < q ∧ q ≠ w1.heap.size) (cells7 k4 l4 c4 n4 m4 o4 (.slice a4 b4 d4)) := Ex.At.keep (fun q h _ => h) (fun q h hlt o => World.cell?_of_block (hgo.block q hlt (by simp; omega))) _ _ HATE.out
    have hf2 := HF1.out
    have HPI := Lib.hid (part_in (r := w.heap.size) (b := w1.heap.size) (tb := w3.heap.size) HP.out (by omega) (by omega) (HR3.out.more hg3) htok hblk hate hRw (by omega) (by omega) (by omega))
    obtain ⟨y0, y1, y2, y3, y4⟩ := five htok
    obtain ⟨x0, x1, x2, x3, x4, x5, x6⟩ := (seven hblk).1
    have HGO2 := Lib.hid hgo; have HRES2 := Lib.hid hres
    have hbX : w1.heap.size < X.heap.size := by omega
    have hrX : w.heap.size < X.heap.size := by omega
    clear hg3 htok hblk hres hate hgo HR3 hf2
    go_region_with ((first
      | (go_at_call 144; refine (HPI.out _ (by repeat (first | exact grown_refl _ | apply grown_drew))).mono ?_; rintro e' w9 ⟨k5, l5, c5, n5, m5, o5, a5, b5, d5, rfl, hpin⟩; obtain ⟨y0, y1, y2, y3, y4⟩ := five hpin.tok; obtain ⟨x0, x1, x2, x3, x4, x5, x6⟩ := (seven hpin.blk).1; have hz9 := hpin.went.size; have HPN := Lib.hid hpin; clear hpin; unfold cells7)
      | (go_at_call 140; refine (join_in HPN.out (by omega) (by omega) _ (by repeat (first | exact grown_refl _ | apply grown_drew))).mono ?_; rintro e' w10 ⟨k6, l6, c6, n6, m6, o6, a6, b6, d6, rfl, hjin⟩; obtain ⟨⟨v0, v1, v2, v3, v4, v5, v6⟩, f0, f1, f2, f3, f4, f5, f6⟩ := seven hjin.blk; have hz10 := hjin.went.size; have hrs10 := hjin.went.keep HRES2.out (by omega); obtain ⟨⟨z0, z1, z2, z3, z4, z5, z6⟩, h0, h1, h2, h3, h4, h5, h6⟩ := seven hrs10; have HJN := Lib.hid hjin; clear hjin hrs10; unfold cells7)))
    all_goals
      go_wp2_with (fail)
    all_goals
      refine bodyPost_ret (v := .agg (cells7 k6 l6 c6 n6 m6 o6 (.slice a6 b6 d6))) (by simp [results, Tryz.results141, go_sem, cells7, z0, z1, z2, z3, z4, z5, z6]) rfl ?_
      rw [HV.out]
      refine rel_end (r := w.heap.size) (b := w1.heap.size) ?_ HJN.out hRw hb1 (HWT.out.trans HGO2.out) (Nat.le_refl _)
      repeat (first | with_reducible (refine Sets2.set ?_ _ _) | with_reducible (refine Sets2.set' ?_ _ _) | with_reducible (refine Sets2.drew ?_) | with_reducible (exact Sets2.refl _ _ _))

def andMarks : List (List UInt8) := [[38, 38]]

set_option maxHeartbeats 1000000 in
set_option maxRecDepth 100000 in
theorem and_any {R g n : Nat} {part : Par} (hp : ParOk R g n 141 part) (hf : Fine n part) : ParOk R g n 139 (chainL part andMarks) := by
  intro s w hl hd h
  have HP := Lib.hid hp; have HF := Lib.hid hf; have HR := Lib.hid h
  have hRw := h.size
  clear hp hf h
  go_enter Tryz.func139, Tryz.ntmps139
  go_wp2_with (fail)
  generalize hW : (w.alloc (.cells #[.int .i64 0, .int .i64 0, .int .i64 0, .int .i64 0, .string ⟨#[]⟩, .int .i64 0, .slice none 0 0] 47)).alloc (.cells #[.string ⟨#[38, 38]⟩] 9) = W
  have hg : w.grownBy W none := by rw [← hW]; exact grown_trans (grown_alloc _ _) (grown_alloc _ _)
  have hres : W.heap[w.heap.size]? = some (.cells zero7 47 (0, 0)) := by rw [← hW]; exact alloc_past _ _ _ _ (by simp) (alloc_at _ _ _ rfl)
  have hmk : Marks W (w.heap.size + 1) andMarks := by rw [← hW]; exact marks_of (alloc_at _ _ _ (by simp))
  have hsz : W.heap.size = w.heap.size + 2 := by rw [← hW]; simp
  clear hW
  have HG := Lib.hid hg; have HRES := Lib.hid hres; have HSZ := Lib.hid hsz; have HMK := Lib.hid hmk
  clear hg hres hsz hmk
  refine (chain_rel R g n part HP.out HF.out andMarks (by decide) (by decide) (w.heap.size + 1) s W hl hd (HR.out.more HG.out) HMK.out (by have := HSZ.out; omega) (by omega)).mono ?_
  rintro e w1 ⟨cs, rfl, hat, hw1, hr1⟩
  obtain ⟨k3, l3, c3, n3, m3, o3, a3, b3, d3, rfl⟩ := hat.cells
  have hz1 := hw1.size
  have hrs := hw1.keep HRES.out (by omega)
  obtain ⟨⟨z0, z1, z2, z3, z4, z5, z6⟩, f0, f1, f2, f3, f4, f5, f6⟩ := seven hrs
  have HAT := Lib.hid hat; have HW1 := Lib.hid hw1; have HR1 := Lib.hid hr1
  clear hat hw1 hr1 hrs
  unfold cells7
  go_wp2_with (fail)
  refine bodyPost_ret (v := .agg (cells7 k3 l3 c3 n3 m3 o3 (.slice a3 b3 d3))) (by simp [results, Tryz.results139, go_sem, cells7, z0, z1, z2, z3, z4, z5, z6]) rfl ?_
  refine ex_end (r := w.heap.size) ?_ HAT.out (fun q hq => by have : W.heap.size ≤ q := hq; have := HSZ.out; omega) (Nat.le_refl _) hRw ((went_none HG.out).trans HW1.out) HR1.out
  repeat (first | with_reducible (exact Sets.refl _ _) | with_reducible (refine Sets.set ?_ _ _))
end Go.Proofs.YtaomlahphlemdaaGreatDoor
