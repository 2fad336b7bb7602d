/-
  What ast's write does: calls; every expression; Text; the document's example.
-/
import Derived.Test.YtgnnendcgbijnaaDoorAstD
namespace Go.Proofs.YtgnnendcgbijnaaDoor
open Go.ChangeShapes Go.WideShapes Go.ChangeAt Go.RowKit
set_option linter.unusedVariables false

theorem commas_snoc : ∀ (l : List (List UInt8)) (x : List UInt8), commas (l ++ [x]) = if l = [] then x else commas l ++ [44, 32] ++ x
  | [], x => rfl
  | [a], x => by simp [commas]
  | a :: b :: r, x => by
    have h := commas_snoc (b :: r) x
    simp only [List.cons_append, commas] at h ⊢
    rw [h]; simp
theorem commas_take (l : List (List UInt8)) (k : Nat) (h : k < l.length) : commas (l.take (k + 1)) = if k = 0 then l[k] else commas (l.take k) ++ [44, 32] ++ l[k] := by
  rw [List.take_succ_eq_append_getElem h, commas_snoc]
  by_cases hk : k = 0
  · subst hk; simp
  · rw [if_neg hk, if_neg]
    intro e
    have h1 : (l.take k).length = k := by rw [List.length_take]; omega
    rw [e] at h1
    exact hk h1.symm
theorem commas_le (l : List (List UInt8)) (k : Nat) : (commas (l.take k)).length ≤ (commas l).length := by
  induction l generalizing k with
  | nil => simp
  | cons a r ih =>
    cases k with
    | zero => simp [commas]
    | succ k =>
      cases r with
      | nil => simp [commas]
      | cons b r =>
        cases k with
        | zero => simp [commas]
        | succ k => have := ih (k + 1); simp [commas] at this ⊢; omega
theorem kids_at {w : World} {B : Nat} {kids : List Ex} {kv : Value} (hk : (kids = [] ∧ ∃ a cap, kv = .slice a 0 cap) ∨ (kids ≠ [] ∧ ∃ g o cap, kv = .slice (some ⟨g, o, none⟩) kids.length cap ∧ g < B ∧ kids.length ≤ cap ∧ kids.length ≤ 4611686018427387904 ∧ Ex.Row w (· < B) g o kids)) :
    ∃ a cap, kv = .slice a kids.length cap ∧ kids.length ≤ 4611686018427387904 ∧ (0 < kids.length → ∃ g o, a = some ⟨g, o, none⟩ ∧ g < B ∧ kids.length ≤ cap ∧ Ex.Row w (· < B) g o kids) := by
  rcases hk with ⟨rfl, a, cap, rfl⟩ | ⟨h, g, o, cap, rfl, h1, h2, h3, h4⟩
  · exact ⟨a, cap, rfl, by simp, by simp⟩
  · exact ⟨_, cap, rfl, h3, fun _ => ⟨g, o, rfl, h1, h2, h4⟩⟩

set_option maxHeartbeats 1000000 in
set_option maxRecDepth 100000 in
theorem call_any (kind line col num : Int) (name : List UInt8) (op : Int) (kids : List Ex) (ih : ∀ i (h : i < kids.length), WriteOk kids[i])
    (cs : Array Value) (B b : Nat) (l : List UInt8) (w : World) (hat : (Ex.mk kind line col num name op kids).At w (· < B) cs) (hd : Desk B b l w) (t : List UInt8) (ht : t = name ++ [40] ++ commas (Ex.texts kids) ++ [41]) (hlen : l.length + t.length ≤ 140737488355328) :
    Calls Tryd.prog 25 #[.agg cs, .pointer (some ⟨b, 0, none⟩)] w (WritePost B b (l ++ t) w) := by
  unfold Ex.At at hat
  obtain ⟨_, hop, kv, rfl, _, hk⟩ := hat
  obtain ⟨a, cap, rfl, hmax, hrow⟩ := kids_at hk
  rw [ht] at hlen
  simp only [List.length_append, List.length_cons, List.length_nil] at hlen
  have hcl := fun k => commas_le (Ex.texts kids) k
  have htl := Ex.texts_length kids
  have HTL := Lib.hid htl; have HCL := Lib.hid hcl
  have HT := Lib.hid ht; have HRR := Lib.hid hrow; have HIH := Lib.hid ih
  have HD := Lib.hid hd
  clear hd ht hk hrow hop hcl htl ih
  have hBw := HD.out.le
  generalize hn : kids.length = n at hmax
  have HN := Lib.hid hn
  clear hn
  unfold cells7
  go_enter Tryd.func25, Tryd.ntmps25
  go_wp2_with (fail)
  refine (wr_any B b l (name ++ [40]) _ (by simp) _ (HD.out.wrote (HD.out.alloc _)) (by simp; omega)).mono ?_
  rintro e w1 ⟨n1, rfl, hw1⟩
  have hbx := box_at (w := w.alloc (.cells (cells7 kind line col num name op (.slice a n cap)) 51)) (k := w.heap.size) (alloc_heap _ _) (Nat.ne_of_gt HD.out.ne) hw1.kept
  obtain ⟨c0, c1, c2, c3, c4, c5, c6⟩ := own7 hbx
  have hall := (HD.out.alloc (.cells (cells7 kind line col num name op (.slice a n cap)) 51)).trans hw1
  have HALL := Lib.hid hall
  clear hall hw1 hbx
  go_wp2_with (fail)
  go_loopw [14] (fun i wr => ∃ k : Nat, k ≤ n ∧ i = .int .i64 k ∧ Wrote B b (Lib.byteCells (l ++ (name ++ [40]) ++ commas ((Ex.texts kids).take k))) w wr) (fun i _ => n - (intOf i).toNat)
  case atStart => exact ⟨0, Nat.zero_le _, rfl, by simpa [commas] using HALL.out⟩
  case round =>
    obtain ⟨k, hk, rfl, hw⟩ := hrel
    have HW := Lib.hid hw; have HDK := Lib.hid (HD.out.wrote hw)
    clear hw c0 c1 c2 c3 c4 c5 c6
    by_cases hlt : k < n
    · have hkl : k < kids.length := by rw [HN.out]; exact hlt
      obtain ⟨g, o, ha, hg, hcap, hrow⟩ := HRR.out (by omega)
      subst ha
      rw [HN.out] at hcap
      have hct := commas_take (Ex.texts kids) k (by rw [HTL.out]; exact hkl)
      rw [Ex.texts_get kids k hkl] at hct
      have hc1 := HCL.out (k + 1)
      have HCT := Lib.hid hct
      rw [hct] at hc1
      clear hct
      obtain ⟨kind', line', col', num', name', op', ka', kn', kc', hat', d0, d1, d2, d3, d4, d5, d6⟩ := kid_cells (Ex.Row.later HW.out.below g hg o _ hrow) k hkl
      have HA := Lib.hid hat'; have IHK := Lib.hid (HIH.out k hkl)
      clear hat' hrow
      have hal := HDK.out.alloc (.cells (cells7 kind' line' col' num' name' op' (.slice ka' kn' kc')) 51)
      have HAL := Lib.hid hal
      have hdl := HDK.out.wrote hal
      have HDL := Lib.hid hdl
      have hwr := HDK.out.le
      clear hal hdl
      by_cases h0 : k = 0
      · have b0 : decide (0 < k) = false := by simp; omega
        have b1 : decide ((0 : Int) < (k : Int)) = false := by simp; omega
        rw [if_pos h0] at hc1
        have HC0 := Lib.hid (show commas ((Ex.texts kids).take (k + 1)) = commas ((Ex.texts kids).take k) ++ kids[k].text by
          rw [HCT.out, if_pos h0]
          have hz : (Ex.texts kids).take k = [] := by rw [h0]; rfl
          rw [hz]; rfl)
        have HZ := Lib.hid (show (commas ((Ex.texts kids).take k)).length = 0 by rw [h0]; rfl)
        clear h0
        go_wp2_with (fail)
        refine (IHK.out _ B b _ _ (Ex.At.later HAL.out.below _ _ HA.out) HDL.out (by have := HZ.out; simp only [List.length_append, List.length_cons, List.length_nil] at *; omega)).mono ?_
        rintro e w2 ⟨rfl, hw2⟩
        have HW2 := Lib.hid hw2; clear hw2
        go_wp2_with (fail)
        go_roundw
        case rel =>
          refine ⟨k + 1, by omega, by go_num, ?_⟩
          rw [HC0.out, ← List.append_assoc]
          exact (HW.out.trans HAL.out).trans HW2.out
        case measure => simp [intOf]; omega
      · have b0 : decide (0 < k) = true := by simp; omega
        have b1 : decide ((0 : Int) < (k : Int)) = true := by simp; omega
        rw [if_neg h0] at hc1
        simp only [List.length_append, List.length_cons, List.length_nil] at hc1
        have HC0 := Lib.hid (show commas ((Ex.texts kids).take (k + 1)) = commas ((Ex.texts kids).take k) ++ [44, 32] ++ kids[k].text by rw [HCT.out, if_neg h0])
        clear h0
        go_wp2_with (fail)
        refine (wr_any B b _ [44, 32] ⟨#[44, 32]⟩ rfl _ HDL.out (by simp only [List.length_append, List.length_cons, List.length_nil] at *; omega)).mono ?_
        rintro e w2 ⟨n2, rfl, hw2⟩
        have hbx := box_at (w := wr.alloc (.cells (cells7 kind' line' col' num' name' op' (.slice ka' kn' kc')) 51)) (k := wr.heap.size) (alloc_heap _ _) (Nat.ne_of_gt HDK.out.ne) hw2.kept
        obtain ⟨c0, c1, c2, c3, c4, c5, c6⟩ := own7 hbx
        have HW2 := Lib.hid hw2; have HD2 := Lib.hid (HDL.out.wrote hw2); clear hw2 hbx d0 d1 d2 d3 d4 d5 d6
        go_wp2_with (fail)
        refine (IHK.out _ B b _ _ (Ex.At.later (HAL.out.below.trans HW2.out.below) _ _ HA.out) HD2.out (by simp only [List.length_append, List.length_cons, List.length_nil] at *; omega)).mono ?_
        rintro e w3 ⟨rfl, hw3⟩
        have HW3 := Lib.hid hw3; clear hw3
        go_wp2_with (fail)
        go_roundw
        case rel =>
          refine ⟨k + 1, by omega, by go_num, ?_⟩
          rw [HC0.out, ← List.append_assoc, ← List.append_assoc]
          exact ((HW.out.trans HAL.out).trans HW2.out).trans HW3.out
        case measure => simp [intOf]; omega
    · obtain rfl : n = k := by omega
      have HC0 := Lib.hid (show (Ex.texts kids).take n = Ex.texts kids from List.take_of_length_le (by rw [HTL.out, HN.out]; exact Nat.le_refl _))
      go_wp2_with (fail)
      refine (wr_any B b _ [41] _ rfl _ HDK.out (by have := HCL.out n; simp only [List.length_append, List.length_cons, List.length_nil] at *; omega)).mono ?_
      rintro e w2 ⟨n2, rfl, hw2⟩
      have HW2 := Lib.hid hw2; clear hw2
      go_wp2_with (fail)
      go_end0
      refine ⟨rfl, ?_⟩
      have := HW.out.trans HW2.out
      rw [HC0.out] at this
      rw [HT.out]
      simpa only [List.append_assoc] using this
end Go.Proofs.YtgnnendcgbijnaaDoor
