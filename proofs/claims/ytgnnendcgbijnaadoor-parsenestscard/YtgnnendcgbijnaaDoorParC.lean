/-
  The parser's reader: sees, skip, must, want.
-/
import Derived.Test.YtgnnendcgbijnaaDoorParB
namespace Go.Proofs.YtgnnendcgbijnaaDoor
open Go.ChangeShapes Go.WideShapes Go.ChangeAt Go.RowKit
set_option linter.unusedVariables false

/-- A list of texts in a block of its own. -/
def Marks (w : World) (m : Nat) (xs : List (List UInt8)) : Prop := ∀ (j : Nat) (x : List UInt8), xs[j]? = some x → w.cell? ⟨m, j, none⟩ = some (.string ⟨x.toArray⟩)
theorem Marks.keep {w w' : World} {m : Nat} {xs : List (List UInt8)} (h : Marks w m xs) (hc : ∀ p, w'.cell? ⟨m, p, none⟩ = w.cell? ⟨m, p, none⟩) : Marks w' m xs := fun j x hj => (hc j).trans (h j x hj)
theorem bytes_mem (t : List UInt8) (xs : List (List UInt8)) : ((⟨t.toArray⟩ : ByteArray) ∈ xs.map fun x => (⟨x.toArray⟩ : ByteArray)) ↔ t ∈ xs := by
  rw [List.mem_map]
  constructor
  · rintro ⟨x, hx, he⟩
    have : x.toArray = t.toArray := congrArg ByteArray.data he
    have : x = t := by simpa using this
    rw [← this]; exact hx
  · intro h; exact ⟨t, h, rfl⟩

set_option maxHeartbeats 1000000 in
set_option maxRecDepth 100000 in
theorem sees_any (R g : Nat) (s : St) (m cap : Nat) (xs : List (List UInt8)) (hx : xs.length ≤ 1000) (w : World) (h : Reads R g s w) (hm : Marks w m xs) (hmw : m < w.heap.size) :
    Calls Tryd.prog 43 #[.pointer (some ⟨R, 0, none⟩), .slice (some ⟨m, 0, none⟩) xs.length cap] w fun e w' => e = .returned (.bool (s.sees xs)) ∧ w.grownBy w' none := by
  have HR := Lib.hid h; have HM := Lib.hid hm
  clear h hm
  generalize hn : xs.length = n at hx
  have HN := Lib.hid hn
  clear hn
  go_enter Tryd.func43, Tryd.ntmps43
  go_wp2_with (fail)
  refine (now_any R g s _ HR.out).mono ?_
  rintro e w1 ⟨rfl, hg1⟩
  have HG := Lib.hid hg1
  clear hg1
  unfold tokAgg
  go_wp2_with (fail)
  rw [field_text]
  simp only [Result.andThen]
  rw [Oper.upon_value]
  go_wp2_with (fail)
  have hmk : Marks w1 m xs := HM.out.keep fun p => World.cell?_of_block (HG.out.block m hmw (by simp))
  refine (Tryd.slices_Contains_string m 0 n cap (xs.map fun x => (⟨x.toArray⟩ : ByteArray)) ⟨s.now.text.toArray⟩ _ (by rw [List.length_map, HN.out]; exact Nat.le_refl _) (by omega) (fun j hj => ?_)).mono ?_
  · rw [List.length_map] at hj
    rw [Nat.zero_add, hmk j _ (List.getElem?_eq_getElem hj)]
    simp [List.getD, hj]
  · rintro e w2 ⟨rfl, rfl⟩
    have hv : Lib.containsS ((xs.map fun x => (⟨x.toArray⟩ : ByteArray)).take n) ⟨s.now.text.toArray⟩ = s.sees xs := by
      rw [List.take_of_length_le (by rw [List.length_map, HN.out]; exact Nat.le_refl _), Bool.eq_iff_iff, Lib.containsS_iff]
      unfold St.sees
      rw [decide_eq_true_iff]
      exact bytes_mem _ _
    rw [hv]
    clear hv hmk
    go_wp2_with (fail)
    go_ret
    exact ⟨rfl, HG.out⟩

theorem grown_trans {a b c : World} (h : a.grownBy b none) (k : b.grownBy c none) : a.grownBy c none :=
  ⟨k.os.trans h.os, k.tape.trans h.tape, k.output.trans h.output, Nat.le_trans h.size k.size, fun j hj hne => (k.block j (Nat.lt_of_lt_of_le hj h.size) hne).trans (h.block j hj hne)⟩

def St.skip (s : St) (x : List UInt8) : St := if s.sees [x] then s.next else s
set_option maxHeartbeats 1000000 in
set_option maxRecDepth 100000 in
theorem skip_any (R g : Nat) (s : St) (x : List UInt8) (w : World) (h : Reads R g s w) :
    Calls Tryd.prog 40 #[.pointer (some ⟨R, 0, none⟩), .string ⟨x.toArray⟩] w (Post R g (s.skip x) (.bool (s.sees [x])) w) := by
  have HR := Lib.hid h
  have hRs := h.size
  clear h
  go_enter Tryd.func40, Tryd.ntmps40
  go_wp2_with (fail)
  have hmk : Marks (w.alloc (.cells #[.string ⟨x.toArray⟩] 9)) w.heap.size [x] := by
    intro j y hj
    rw [World.cell?_alloc_at _ _ _ _ rfl]
    cases j with
    | zero => simp at hj; subst hj; rfl
    | succ j => simp at hj
  have HM := Lib.hid hmk
  clear hmk
  refine (sees_any R g s w.heap.size 1 [x] (by simp) _ (HR.out.alloc _) HM.out (by simp)).mono ?_
  rintro e w1 ⟨rfl, hg1⟩
  have HG := Lib.hid (grown_trans (grown_alloc w _) hg1)
  clear hg1
  cases hb : s.sees [x]
  · have HB := Lib.hid (show s.skip x = s by unfold St.skip; rw [hb]; rfl)
    have HBB := Lib.hid hb
    clear hb
    go_wp2_with (fail)
    go_ret
    exact ⟨by rw [HBB.out]; rfl, went_none HG.out, by rw [HB.out]; exact HR.out.more HG.out⟩
  · have HB := Lib.hid (show s.skip x = s.next by unfold St.skip; rw [hb]; rfl)
    have HBB := Lib.hid hb
    clear hb
    go_wp2_with (fail)
    refine (take_any R g s _ (HR.out.more HG.out)).mono ?_
    rintro e w2 ⟨rfl, hw2, hr2⟩
    have HW := Lib.hid hw2; have HR2 := Lib.hid hr2
    clear hw2 hr2
    unfold tokAgg
    go_wp2_with (fail)
    go_ret
    exact ⟨by rw [HBB.out]; rfl, (went_none HG.out).trans HW.out, by rw [HB.out]; exact HR2.out⟩

set_option maxHeartbeats 1000000 in
set_option maxRecDepth 100000 in
theorem must_any (R g : Nat) (s : St) (x : List UInt8) (w : World) (h : Reads R g s w) :
    Calls Tryd.prog 42 #[.pointer (some ⟨R, 0, none⟩), .string ⟨x.toArray⟩] w (Post R g (s.must x) (.tuple #[]) w) := by
  have HR := Lib.hid h
  clear h
  go_enter Tryd.func42, Tryd.ntmps42
  go_wp2_with (fail)
  refine (skip_any R g s x _ HR.out).mono ?_
  rintro e w1 ⟨rfl, hw1, hr1⟩
  have HW := Lib.hid hw1; have HR1 := Lib.hid hr1
  clear hw1 hr1
  cases hb : s.sees [x]
  · have HB := Lib.hid hb
    have HS := Lib.hid (show s.must x = s.refuse by unfold St.must; rw [hb]; rfl)
    have HK := Lib.hid (show s.skip x = s by unfold St.skip; rw [hb]; rfl)
    clear hb
    go_wp2_with (fail)
    refine (refuse_any R g s _ (by rw [← HK.out]; exact HR1.out)).mono ?_
    rintro e w2 ⟨rfl, hw2, hr2⟩
    have HW2 := Lib.hid hw2; have HR2 := Lib.hid hr2
    clear hw2 hr2
    go_wp2_with (fail)
    go_end0
    exact ⟨rfl, HW.out.trans HW2.out, by rw [HS.out]; exact HR2.out⟩
  · have HS := Lib.hid (show s.must x = s.skip x by unfold St.must St.skip; rw [hb]; rfl)
    clear hb
    go_wp2_with (fail)
    go_end0
    exact ⟨rfl, HW.out, by rw [HS.out]; exact HR1.out⟩

def St.want (s : St) (k : Int) : Tok × St := if s.now.kind = k then (s.now, s.next) else (noTok, s.refuse)
set_option maxHeartbeats 1000000 in
set_option maxRecDepth 100000 in
theorem want_any (R g : Nat) (s : St) (k : Int) (w : World) (h : Reads R g s w) :
    Calls Tryd.prog 39 #[.pointer (some ⟨R, 0, none⟩), .int .i64 k] w (Post R g (s.want k).2 (tokAgg (s.want k).1) w) := by
  have HR := Lib.hid h
  have hRs := h.size
  clear h
  go_enter Tryd.func39, Tryd.ntmps39
  go_wp2_with (fail)
  refine (now_any R g s _ (HR.out.alloc _)).mono ?_
  rintro e w1 ⟨rfl, hg1⟩
  have hsz := hg1.size
  simp at hsz
  have hk0 := hg1.block w.heap.size (by simp) (by simp)
  rw [heap_alloc_new] at hk0
  have HG := Lib.hid (grown_trans (grown_alloc w _) hg1)
  have HK0 := Lib.hid hk0
  clear hg1 hk0
  unfold tokAgg
  go_wp2_with (fail)
  rw [field_kind]
  simp only [Result.andThen]
  rw [Oper.upon_value]
  by_cases hk : s.now.kind = k
  · have b0 : (s.now.kind != k) = false := by simpa using hk
    have HW := Lib.hid (show s.want k = (s.now, s.next) by unfold St.want; rw [if_pos hk])
    clear hk
    go_wp2_with (fail)
    refine (take_any R g s _ (HR.out.more HG.out)).mono ?_
    rintro e w2 ⟨rfl, hw2, hr2⟩
    have hsz2 := hw2.size
    have hk2 := (hw2.block w.heap.size (by omega) (by simp; omega)).trans HK0.out
    obtain ⟨z0, z1, z2, z3, z4⟩ : w2.cell? ⟨w.heap.size, 0, none⟩ = some (.int .i64 0) ∧ w2.cell? ⟨w.heap.size, 1, none⟩ = some (.string ⟨#[]⟩) ∧ w2.cell? ⟨w.heap.size, 2, none⟩ = some (.int .i64 0) ∧ w2.cell? ⟨w.heap.size, 3, none⟩ = some (.int .i64 0) ∧ w2.cell? ⟨w.heap.size, 4, none⟩ = some (.int .i64 0) := by
      refine ⟨?_, ?_, ?_, ?_, ?_⟩ <;> (rw [Lib.cell_of_heap hk2]; rfl)
    have f0 := Lib.frozen_of_heap hk2 0; have f1 := Lib.frozen_of_heap hk2 1; have f2 := Lib.frozen_of_heap hk2 2; have f3 := Lib.frozen_of_heap hk2 3; have f4 := Lib.frozen_of_heap hk2 4
    have HW2 := Lib.hid hw2; have HR2 := Lib.hid hr2
    clear hw2 hr2 hk2
    unfold tokAgg
    go_wp2_with (fail)
    refine bodyPost_ret (v := tokAgg s.now) (by simp [results, Tryd.results39, go_sem, tokAgg, z0, z1, z2, z3, z4]) rfl ⟨by rw [HW.out], ?_, ?_⟩
    · repeat (first | with_reducible (refine went_new ?_ _ _ (Nat.le_refl _)) | with_reducible (exact (went_none HG.out).trans HW2.out))
    · rw [HW.out]
      repeat (first | with_reducible (refine Reads.set ?_ _ _ hRs) | with_reducible (exact HR2.out))
  · have b0 : (s.now.kind != k) = true := by simpa using hk
    have HW := Lib.hid (show s.want k = (noTok, s.refuse) by unfold St.want; rw [if_neg hk])
    clear hk
    go_wp2_with (fail)
    refine (refuse_any R g s _ (HR.out.more HG.out)).mono ?_
    rintro e w2 ⟨rfl, hw2, hr2⟩
    have hsz2 := hw2.size
    have hk2 := (hw2.block w.heap.size (by omega) (by simp; omega)).trans HK0.out
    obtain ⟨z0, z1, z2, z3, z4⟩ : w2.cell? ⟨w.heap.size, 0, none⟩ = some (.int .i64 0) ∧ w2.cell? ⟨w.heap.size, 1, none⟩ = some (.string ⟨#[]⟩) ∧ w2.cell? ⟨w.heap.size, 2, none⟩ = some (.int .i64 0) ∧ w2.cell? ⟨w.heap.size, 3, none⟩ = some (.int .i64 0) ∧ w2.cell? ⟨w.heap.size, 4, none⟩ = some (.int .i64 0) := by
      refine ⟨?_, ?_, ?_, ?_, ?_⟩ <;> (rw [Lib.cell_of_heap hk2]; rfl)
    have f0 := Lib.frozen_of_heap hk2 0; have f1 := Lib.frozen_of_heap hk2 1; have f2 := Lib.frozen_of_heap hk2 2; have f3 := Lib.frozen_of_heap hk2 3; have f4 := Lib.frozen_of_heap hk2 4
    have HW2 := Lib.hid hw2; have HR2 := Lib.hid hr2
    clear hw2 hr2 hk2
    go_wp2_with (fail)
    refine bodyPost_ret (v := tokAgg noTok) (by simp [results, Tryd.results39, go_sem, tokAgg, noTok, z0, z1, z2, z3, z4]) rfl ⟨by rw [HW.out], ?_, ?_⟩
    · repeat (first | with_reducible (refine went_new ?_ _ _ (Nat.le_refl _)) | with_reducible (exact (went_none HG.out).trans HW2.out))
    · rw [HW.out]
      repeat (first | with_reducible (refine Reads.set ?_ _ _ hRs) | with_reducible (exact HR2.out))
end Go.Proofs.YtgnnendcgbijnaaDoor
