/-
  The parser's reader: take, fail, refuse, enter, leave, sees, skip, must, want.
-/
import Derived.Test.YtgnnendcgbijnaaDoorParA
import Derived.IntWalk
import Derived.Deep.Cut
import Derived.Deep.CutRange
namespace Go.Proofs.YtgnnendcgbijnaaDoor
open Go.ChangeShapes Go.WideShapes Go.ChangeAt Go.RowKit
set_option linter.unusedVariables false

theorem set_block (w : World) (R j : Nat) (cs : Array Value) (v : Value) (t : TypeId) (h : w.heap[R]? = some (.cells cs t (0, 0))) : (w.setCell ⟨R, j, none⟩ v).heap[R]? = some (.cells (cs.setIfInBounds j v) t (0, 0)) := by
  simp [World.setCell, Array.getElem?_modify, h]
theorem went_set (R j : Nat) (w : World) (v : Value) : Went R w (w.setCell ⟨R, j, none⟩ v) :=
  ⟨rfl, rfl, rfl, by simp, fun k hk hne => Below.heap_setCell _ _ _ _ (fun e => hne (by rw [e]))⟩
theorem went_alloc {R : Nat} {w w' : World} (h : Went R w w') (o : Obj) : Went R w (w'.alloc o) := h.trans (went_none (grown_alloc _ _))
theorem went_setR {R : Nat} {w w' : World} (h : Went R w w') (j : Nat) (v : Value) : Went R w (w'.setCell ⟨R, j, none⟩ v) := h.trans (went_set R j _ v)
theorem went_new {R b : Nat} {w w' : World} (h : Went R w w') (j : Nat) (v : Value) (hb : w.heap.size ≤ b) : Went R w (w'.setCell ⟨b, j, none⟩ v) :=
  ⟨h.os, h.tape, h.output, by have := h.size; simpa using this, fun k hk hne => (Below.heap_setCell _ _ _ _ (by show k ≠ b; omega)).trans (h.block k hk hne)⟩
theorem Reads.alloc {R g : Nat} {s : St} {w : World} (h : Reads R g s w) (o : Obj) : Reads R g s (w.alloc o) := h.more (grown_alloc _ _)
theorem Reads.set {R g b : Nat} {s : St} {w : World} (h : Reads R g s w) (j : Nat) (v : Value) (h1 : R < b) : Reads R g s (w.setCell ⟨b, j, none⟩ v) := by
  obtain ⟨o, cap, h2, h3, h4⟩ := h.row
  have hl := h.lt
  exact ⟨h.lt, ⟨o, cap, (Below.heap_setCell _ _ _ _ (by show R ≠ b; omega)).trans h2, h3, h4.keep fun p => World.cell?_of_block (Below.heap_setCell _ _ _ _ (by show g ≠ b; omega))⟩, h.last, h.len, h.deep, h.low, h.signs.keep (by simp) fun p => World.cell?_of_block (Below.heap_setCell _ _ _ _ (by have := h.low; show 1 ≠ b; omega))⟩
theorem Reads.put0 {R g o n cap : Nat} {s : St} {w : World} (h : Reads R g s w) (hR : w.heap[R]? = some (.cells (cellsR g o n cap s) 58 (0, 0))) (hrow : TokRow w g o s.left) (m n' cap' : Nat) (hm : m < s.left.length) (hn : n' = s.left.length - m) (hc : n' ≤ cap') :
    Reads R g { s with left := s.left.drop m } (w.setCell ⟨R, 0, none⟩ (.slice (some ⟨g, o + 5 * m, none⟩) n' cap')) := by
  have hl : (s.left.drop m).length = n' := by rw [List.length_drop, hn]
  have hlt := h.lt
  refine ⟨h.lt, ⟨o + 5 * m, cap', ?_, by rw [hl]; exact hc, ?_⟩, h.last.drop m hm, by have := h.len; rw [hl]; omega, h.deep, h.low, h.signs.keep (by simp) fun p => World.cell?_of_block (Below.heap_setCell _ _ _ _ (by have := h.low; show 1 ≠ R; omega))⟩
  · rw [hl]; exact set_block w R 0 _ _ _ hR
  · exact (hrow.drop m).keep fun p => World.cell?_of_block (Below.heap_setCell _ _ _ _ (by show g ≠ R; omega))
theorem Reads.put1 {R g : Nat} {s : St} {w : World} (h : Reads R g s w) (d : Int) (hd : 0 ≤ d ∧ d ≤ 400000) : Reads R g { s with deep := d } (w.setCell ⟨R, 1, none⟩ (.int .i64 d)) := by
  obtain ⟨o, cap, h2, h3, h4⟩ := h.row
  have hlt := h.lt
  exact ⟨h.lt, ⟨o, cap, set_block w R 1 _ _ _ h2, h3, h4.keep fun p => World.cell?_of_block (Below.heap_setCell _ _ _ _ (by show g ≠ R; omega))⟩, h.last, h.len, hd, h.low, h.signs.keep (by simp) fun p => World.cell?_of_block (Below.heap_setCell _ _ _ _ (by have := h.low; show 1 ≠ R; omega))⟩
theorem Reads.putF {R g : Nat} {s : St} {w : World} (h : Reads R g s w) (e l c : Int) : Reads R g { s with err := e, line := l, col := c } (((w.setCell ⟨R, 2, none⟩ (.int .i64 e)).setCell ⟨R, 3, none⟩ (.int .i64 l)).setCell ⟨R, 4, none⟩ (.int .i64 c)) := by
  obtain ⟨o, cap, h2, h3, h4⟩ := h.row
  have hlt := h.lt
  refine ⟨h.lt, ⟨o, cap, set_block _ R 4 _ _ _ (set_block _ R 3 _ _ _ (set_block w R 2 _ _ _ h2)), h3, h4.keep fun p => ?_⟩, h.last, h.len, h.deep, h.low, h.signs.keep (by simp) fun p => ?_⟩
  · rw [World.cell?_of_block (Below.heap_setCell _ _ _ _ (by show g ≠ R; omega)), World.cell?_of_block (Below.heap_setCell _ _ _ _ (by show g ≠ R; omega)), World.cell?_of_block (Below.heap_setCell _ _ _ _ (by show g ≠ R; omega))]
  · have hlow := h.low
    rw [World.cell?_of_block (Below.heap_setCell _ _ _ _ (by show 1 ≠ R; omega)), World.cell?_of_block (Below.heap_setCell _ _ _ _ (by show 1 ≠ R; omega)), World.cell?_of_block (Below.heap_setCell _ _ _ _ (by show 1 ≠ R; omega))]
theorem frozenR {w : World} {R j : Nat} {cs : Array Value} {t : TypeId} (h : w.heap[R]? = some (.cells cs t (0, 0))) : w.frozen? ⟨R, j, none⟩ = false := Lib.frozen_of_heap h j

set_option maxHeartbeats 1000000 in
set_option maxRecDepth 100000 in
theorem take_any (R g : Nat) (s : St) (w : World) (h : Reads R g s w) : Calls Tryd.prog 38 #[.pointer (some ⟨R, 0, none⟩)] w (Post R g s.next (tokAgg s.now) w) := by
  have HR := Lib.hid h
  have hRs := h.size
  have hgR := h.lt
  clear h
  go_enter Tryd.func38, Tryd.ntmps38
  go_wp2_with (fail)
  refine (now_any R g s _ (HR.out.more (grown_alloc _ _))).mono ?_
  rintro e w1 ⟨rfl, hg1⟩
  have hgr : w.grownBy w1 none := ⟨hg1.os, hg1.tape, hg1.output, by have := hg1.size; simp at this; omega, fun k hk _ => (hg1.block k (by simp; omega) (by simp)).trans (Below.heap_alloc _ _ _ hk)⟩
  have hsz := hg1.size
  simp at hsz
  have hsz' : w.heap.size < w1.heap.size := hsz
  clear hsz
  have HG := Lib.hid hgr
  have hk0 := hg1.block w.heap.size (by simp) (by simp)
  rw [heap_alloc_new] at hk0
  have z0 : w1.cell? ⟨w.heap.size, 0, none⟩ = some (.int .i64 0) := by rw [Lib.cell_of_heap hk0]; rfl
  have z1 : w1.cell? ⟨w.heap.size, 1, none⟩ = some (.string ⟨#[]⟩) := by rw [Lib.cell_of_heap hk0]; rfl
  have z2 : w1.cell? ⟨w.heap.size, 2, none⟩ = some (.int .i64 0) := by rw [Lib.cell_of_heap hk0]; rfl
  have z3 : w1.cell? ⟨w.heap.size, 3, none⟩ = some (.int .i64 0) := by rw [Lib.cell_of_heap hk0]; rfl
  have z4 : w1.cell? ⟨w.heap.size, 4, none⟩ = some (.int .i64 0) := by rw [Lib.cell_of_heap hk0]; rfl
  clear hgr hg1
  obtain ⟨o, n, cap, t, r, hl, hn, hcap, hmax, hR, c0, c1, c2, c3, c4, a0, a1, a2, a3, a4, hrow⟩ := (HR.out.more HG.out).open
  have hnow : s.now = t := by unfold St.now; rw [hl]; rfl
  rw [hnow]
  unfold tokAgg
  have HL := Lib.hid hl; have HN := Lib.hid hn; have HROW := Lib.hid hrow; have HRB := Lib.hid hR; have HNOW := Lib.hid hnow
  have fR := frozenR (j := 0) hR
  have hn0 : 0 < n := by omega
  have f0 : w1.frozen? ⟨w.heap.size, 0, none⟩ = false := Lib.frozen_of_heap hk0 0
  have f1 : w1.frozen? ⟨w.heap.size, 1, none⟩ = false := Lib.frozen_of_heap hk0 1
  have f2 : w1.frozen? ⟨w.heap.size, 2, none⟩ = false := Lib.frozen_of_heap hk0 2
  have f3 : w1.frozen? ⟨w.heap.size, 3, none⟩ = false := Lib.frozen_of_heap hk0 3
  have f4 : w1.frozen? ⟨w.heap.size, 4, none⟩ = false := Lib.frozen_of_heap hk0 4
  have hgs : g < w1.heap.size := by omega
  have hR1 : R < w1.heap.size := by omega
  clear hl hn hrow hR hnow hk0
  by_cases hk : t.kind = 0
  · have b0 : (t.kind != 0) = false := by simpa using hk
    have HK := Lib.hid hk
    clear hk
    go_wp2_with (fail)
    refine bodyPost_ret (v := tokAgg t) (by simp [results, Tryd.results38, go_sem, tokAgg, z0, z1, z2, z3, z4, hsz']) rfl ⟨by rw [HNOW.out], ?_, ?_⟩
    · repeat (first | with_reducible (refine went_alloc ?_ _) | with_reducible (refine went_new ?_ _ _ (Nat.le_refl _)) | with_reducible (exact went_none HG.out))
    · have : s.next = s := by unfold St.next; rw [HNOW.out, if_pos HK.out]
      rw [this]
      repeat (first | with_reducible (refine Reads.alloc ?_ _) | with_reducible (refine Reads.set ?_ _ _ hRs) | with_reducible (exact HR.out.more HG.out))
  · have b0 : (t.kind != 0) = true := by simpa using hk
    have HK := Lib.hid hk
    clear hk
    obtain ⟨t2, r2, hr2⟩ := List.exists_cons_of_ne_nil (LastEnd.two (t := t) (r := r) (by rw [← HL.out]; exact HR.out.last) HK.out)
    have hn2 : 1 < n := by rw [HN.out, hr2]; simp
    have hc2 : 1 < cap := by omega
    have hc3 : (cap == 1) = false := beq_eq_false_iff_ne.mpr (by omega)
    have HR2 := Lib.hid hr2
    clear hr2
    go_wp2_with (fail)
    refine bodyPost_ret (v := tokAgg t) (by simp [results, Tryd.results38, go_sem, tokAgg, z0, z1, z2, z3, z4, hsz']) rfl ⟨by rw [HNOW.out], ?_, ?_⟩
    · repeat (first | with_reducible (refine went_alloc ?_ _) | with_reducible (refine went_new ?_ _ _ (Nat.le_refl _)) | with_reducible (refine went_setR ?_ _ _) | with_reducible (exact went_none HG.out))
    · have : s.next = { s with left := s.left.drop 1 } := by unfold St.next; rw [HNOW.out, if_neg HK.out]
      rw [this]
      repeat (first | with_reducible (refine Reads.alloc ?_ _) | with_reducible (refine Reads.set ?_ _ _ hRs))
      exact (HR.out.more HG.out).put0 HRB.out HROW.out 1 (n - 1) (cap - 1) (by rw [HL.out]; simp; have := HN.out; omega) (by rw [HL.out, HN.out]; rfl) (by omega)

set_option maxHeartbeats 1000000 in
set_option maxRecDepth 100000 in
theorem fail_any (R g : Nat) (s : St) (er l c : Int) (w : World) (h : Reads R g s w) : Calls Tryd.prog 46 #[.pointer (some ⟨R, 0, none⟩), .int .i64 er, .agg #[.int .i64 l, .int .i64 c]] w (Post R g (s.fail er l c) (.tuple #[]) w) := by
  have HR := Lib.hid h
  have hRs := h.size
  have hgR := h.lt
  have hgs : g < w.heap.size := by omega
  obtain ⟨o, n, cap, t, r, hl, hn, hcap, hmax, hR, c0, c1, c2, c3, c4, a0, a1, a2, a3, a4, hrow⟩ := h.open
  have HL := Lib.hid hl; have HN := Lib.hid hn; have HROW := Lib.hid hrow; have HRB := Lib.hid hR
  have g0 := frozenR (j := 0) hR; have g2 := frozenR (j := 2) hR; have g3 := frozenR (j := 3) hR; have g4 := frozenR (j := 4) hR
  have hn0 : 0 < n := by omega
  clear hl hn hrow hR h a0 a1 a2 a3 a4
  by_cases he : s.err = 0
  · have b0 : (s.err == 0) = true := by simpa using he
    have HE := Lib.hid he
    clear he
    go_enter Tryd.func46, Tryd.ntmps46
    go_upto_region 2 with (fail)
    go_cut [] from 12 to 17 (fun wx => Went R w wx ∧ Reads R g { s with err := er, line := l, col := c } wx)
    case first =>
      go_wp2_with (fail)
      go_meet
      case rel =>
        refine ⟨?_, ?_⟩
        · repeat (first | with_reducible (refine went_alloc ?_ _) | with_reducible (refine went_setR ?_ _ _) | with_reducible (exact went_none ⟨rfl, rfl, rfl, Nat.le_refl _, fun _ _ _ => rfl⟩))
        · repeat (first | with_reducible (refine Reads.alloc ?_ _) | with_reducible (exact HR.out.putF er l c))
    case rest =>
      obtain ⟨hw, hr⟩ := hcut
      have HW := Lib.hid hw; have HRC := Lib.hid hr
      have hRs' := hr.size
      clear c0 c1 c2 c3 c4 g0 g2 g3 g4 hw hcap hmax hn0
      obtain ⟨o, n, cap, t, r, hl, hn, hcap, hmax, hR, c0, c1, c2, c3, c4, a0, a1, a2, a3, a4, hrow⟩ := hr.open
      clear c1 c2 c3 c4 a0 a1 a2 a3 a4 hr
      have HL' := Lib.hid hl; have HN' := Lib.hid hn; have HROW' := Lib.hid hrow; have HRB' := Lib.hid hR
      have g0 := frozenR (j := 0) hR
      have hn0 : 0 < n := by omega
      clear hl hn hrow hR
      obtain ⟨m, rfl⟩ : ∃ m, n = m + 1 := ⟨n - 1, by omega⟩
      have b3 : IntKind.i64.wrap (m : Int) = m := IntWalk.i64_in _ (by omega)
      have b6 : (0 : Int) ≤ (m : Int) := by omega
      have b8 : m ≤ m + 1 := by omega
      have b9 : (m : Int) ≤ (m : Int) + 1 := by omega
      have b10 : (cap == m) = false := beq_eq_false_iff_ne.mpr (by omega)
      have b11 : ¬ cap = m := by omega
      have b12 : m ≤ cap := by omega
      go_wp2_with (fail)
      go_still_tail 14, (by kernel_rfl)
      change wpList _ _ _ _ _ wc.drew
      go_wp2_with (fail)
      go_end0
      have hd : wc.grownBy wc.drew none := ⟨rfl, rfl, rfl, Nat.le_refl _, fun _ _ _ => rfl⟩
      refine ⟨rfl, went_setR (HW.out.trans (went_none hd)) _ _, ?_⟩
      have hlen : s.left.length = m + 1 := by have h1 := congrArg List.length HL'.out; have h2 := HN'.out; simp at h1; omega
      have hf : s.fail er l c = { ({ s with err := er, line := l, col := c } : St) with left := s.left.drop m } := by
        unfold St.fail; rw [if_pos HE.out, hlen, Nat.add_sub_cancel]
      rw [hf]
      have e5 : o + m * 5 = o + 5 * m := by omega
      rw [e5]
      exact (HRC.out.more hd).put0 HRB'.out HROW'.out m 1 (cap - m) (by show m < s.left.length; omega) (by show 1 = s.left.length - m; omega) (by omega)
  · have b0 : (s.err == 0) = false := by simpa using he
    have HE := Lib.hid he
    clear he
    go_enter Tryd.func46, Tryd.ntmps46
    go_wp2_with (fail)
    go_end0
    refine ⟨rfl, went_none (grown_alloc _ _), ?_⟩
    have : s.fail er l c = s := by unfold St.fail; rw [if_neg HE.out]
    rw [this]
    exact HR.out.alloc _

set_option maxHeartbeats 1000000 in
set_option maxRecDepth 100000 in
theorem refuse_any (R g : Nat) (s : St) (w : World) (h : Reads R g s w) : Calls Tryd.prog 21 #[.pointer (some ⟨R, 0, none⟩)] w (Post R g s.refuse (.tuple #[]) w) := by
  have HR := Lib.hid h
  clear h
  go_enter Tryd.func21, Tryd.ntmps21
  go_wp2_with (fail)
  refine (now_any R g s _ HR.out).mono ?_
  rintro e w1 ⟨rfl, hg1⟩
  have HG := Lib.hid hg1
  clear hg1
  unfold tokAgg
  go_wp2_with (fail)
  rw [field_at]
  simp only [Result.andThen]
  rw [Oper.upon_value]
  go_wp2_with (fail)
  refine (fail_any R g s 12 s.now.line s.now.col _ (HR.out.more HG.out)).mono ?_
  rintro e w2 ⟨rfl, hw2, hr2⟩
  have HW := Lib.hid hw2; have HR2 := Lib.hid hr2
  clear hw2 hr2
  go_wp2_with (fail)
  go_end0
  exact ⟨rfl, (went_none HG.out).trans HW.out, HR2.out⟩

set_option maxHeartbeats 1000000 in
set_option maxRecDepth 100000 in
theorem leave_any (R g : Nat) (s : St) (w : World) (h : Reads R g s w) (hd : 1 ≤ s.deep) : Calls Tryd.prog 57 #[.pointer (some ⟨R, 0, none⟩)] w (Post R g s.leave (.tuple #[]) w) := by
  have HR := Lib.hid h
  obtain ⟨d1, d2⟩ := h.deep
  obtain ⟨o, n, cap, t, r, hl, hn, hcap, hmax, hR, c0, c1, c2, c3, c4, a0, a1, a2, a3, a4, hrow⟩ := h.open
  have g1 := frozenR (j := 1) hR
  clear hl hn hrow hR h a0 a1 a2 a3 a4 c0 c2 c3 c4
  go_enter Tryd.func57, Tryd.ntmps57
  go_wp2_with (fail)
  go_end0
  exact ⟨rfl, went_set _ _ _ _, HR.out.put1 (s.deep - 1) (by omega)⟩

theorem St.fail_deep (s : St) (e l c : Int) : (s.fail e l c).deep = s.deep := by unfold St.fail; split <;> rfl
set_option maxHeartbeats 1000000 in
set_option maxRecDepth 100000 in
theorem enter_any (R g : Nat) (s : St) (w : World) (h : Reads R g s w) (hd : s.deep ≤ 399999) : Calls Tryd.prog 56 #[.pointer (some ⟨R, 0, none⟩)] w (Post R g s.enter (.tuple #[]) w) := by
  have HR := Lib.hid h
  obtain ⟨d1, d2⟩ := h.deep
  obtain ⟨o, n, cap, t, r, hl, hn, hcap, hmax, hR, c0, c1, c2, c3, c4, a0, a1, a2, a3, a4, hrow⟩ := h.open
  have g1 := frozenR (j := 1) hR
  clear hl hn hrow hR h a0 a1 a2 a3 a4 c0 c2 c3 c4
  by_cases hb : 200 ≤ s.deep
  · have HB := Lib.hid hb
    go_enter Tryd.func56, Tryd.ntmps56
    go_wp2_with (fail)
    refine (now_any R g s _ HR.out).mono ?_
    rintro e w1 ⟨rfl, hg1⟩
    have HG := Lib.hid hg1
    clear hg1
    unfold tokAgg
    go_wp2_with (fail)
    rw [field_at]
    simp only [Result.andThen]
    rw [Oper.upon_value]
    go_wp2_with (fail)
    refine (fail_any R g s 13 s.now.line s.now.col _ (HR.out.more HG.out)).mono ?_
    rintro e w2 ⟨rfl, hw2, hr2⟩
    have HW := Lib.hid hw2; have HR2 := Lib.hid hr2
    clear c1 g1
    obtain ⟨o, n, cap, t, r, hl, hn, hcap, hmax, hR, c0, c1, c2, c3, c4, a0, a1, a2, a3, a4, hrow⟩ := hr2.open
    have g1 := frozenR (j := 1) hR
    rw [St.fail_deep] at c1
    clear hw2 hr2 hl hn hrow hR a0 a1 a2 a3 a4 c0 c2 c3 c4
    go_wp2_with (fail)
    go_end0
    refine ⟨rfl, went_setR ((went_none HG.out).trans HW.out) _ _, ?_⟩
    have : s.enter = { s.fail 13 s.now.line s.now.col with deep := s.deep + 1 } := by unfold St.enter; simp only [if_pos (show 200 ≤ s.deep by have := HB.out; omega), St.fail_deep]
    rw [this]
    exact HR2.out.put1 (s.deep + 1) (by omega)
  · have HB := Lib.hid hb
    go_enter Tryd.func56, Tryd.ntmps56
    go_wp2_with (fail)
    go_end0
    refine ⟨rfl, went_set _ _ _ _, ?_⟩
    have : s.enter = { s with deep := s.deep + 1 } := by unfold St.enter; simp only [if_neg (show ¬ 200 ≤ s.deep by have := HB.out; omega)]
    rw [this]
    exact HR.out.put1 (s.deep + 1) (by omega)
end Go.Proofs.YtgnnendcgbijnaaDoor
