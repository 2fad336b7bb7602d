/-
  The parser: unary at a minus, a bracket, a number, a name, and at what begins no expression.
-/
import Derived.Test.YtaomlahphlemdaaGreatDoorParN
namespace Go.Proofs.YtaomlahphlemdaaGreatDoor
open Go.ChangeShapes Go.WideShapes Go.ChangeAt Go.RowKit
set_option linter.unusedVariables false

def BothPost (R g r tb : Nat) (ct : Array Value) (p : Ex × St) (w : World) (e : Ending) (w' : World) : Prop :=
  ∃ k l c n m o x y z, e = .returned (.agg (cells7 k l c n m o (.slice x y z))) ∧ p.1.At w' (r + 1 ≤ ·) (cells7 k l c n m o (.slice x y z)) ∧ Laid2 R r tb ct w w' ∧ Reads R g p.2 w'
theorem both_in {R g r tb n0 : Nat} {ct cs : Array Value} {e : Ex} {s : St} {ln cl : Int} {w w9 : World} (hL : Laid2 R r tb ct w w9) (hrd : Reads R g s w9) (hat : e.At w9 (n0 ≤ ·) cs) (hr : r < n0) (hz : n0 ≤ w9.heap.size) (hRr : R < r) (hRt : R < tb) :
    ∀ wx, w9.grownBy wx none → Calls Tryz.prog 142 #[.int .i64 2, .agg #[.int .i64 ln, .int .i64 cl], .agg (cells7 1 ln cl 0 [] 0 (.slice none 0 0)), .agg cs] wx (BothPost R g r tb ct (.mk 6 ln cl 0 [] 2 [.mk 1 ln cl 0 [] 0 [], e], s) w) := by
  intro wx hg
  have hzx := hg.size
  refine (both_any (r + 1 ≤ ·) 2 ln cl ⟨by decide, by decide⟩ _ e _ cs wx (fun q hq => by omega) (at_none 1 ln cl 0 [] 0 in0 in0 none 0) ((hat.grown hg).weak (fun q hq => by have : n0 ≤ q := hq; omega))).mono ?_
  rintro e' w' ⟨c', rfl, hat', hg'⟩
  obtain ⟨k, l, c, n, m, o, x, y, z, rfl⟩ := hat'.cells
  exact ⟨k, l, c, n, m, o, x, y, z, rfl, hat', (hL.went' (went_none hg) hRr hRt).went' (went_none hg') hRr hRt, (hrd.more hg).more hg'⟩

set_option maxHeartbeats 2000000 in
set_option maxRecDepth 100000 in
theorem unary_minus {R g n : Nat} {u : Par} (hp : ParOk R g n 147 u) (hf : Fine n u) (s : St) (w : World) (hl : s.left.length ≤ n + 1) (hd : s.deep + 2 * s.left.length ≤ 300000) (h : Reads R g s w) (kd nm ln cl : Int) (hnow : s.now = ⟨kd, [45], nm, ln, cl⟩)  :
    Calls Tryz.prog 147 #[.pointer (some ⟨R, 0, none⟩)] w (ExPost R g (unaryStep u s) w) := by
  have HV := Lib.hid (show unaryStep u s = (.mk 6 ln cl 0 [] 2 [.mk 1 ln cl 0 [] 0 [], (pOperand u s).1], (pOperand u s).2) by unfold unaryStep; rw [hnow]; rfl)
  have hk : s.now.kind ≠ 0 := fun hk => by have := (now_ok h).1 hk; rw [hnow] at this; cases this
  have HP := Lib.hid hp; have HF := Lib.hid hf; have HK := Lib.hid hk
  clear hp hf hk
  have HR := Lib.hid h; have HNOW := Lib.hid hnow
  have hRw := h.size
  clear h hnow
  go_enter Tryz.func147, Tryz.ntmps147
  go_wp2_with (fail)
  refine (now_any R g s _ (HR.out.alloc _)).mono ?_
  rintro e w1 ⟨rfl, hg1⟩
  rw [HNOW.out]
  have hL0 := laid2_of (t := ⟨kd, [45], nm, ln, cl⟩) (R := R) hg1 hRw
  have hz1 := hg1.size
  simp at hz1
  have HRW := Lib.hid (((HR.out.alloc _).more hg1).alloc (.cells (tokCells ⟨kd, [45], nm, ln, cl⟩) 132))
  have HL0 := Lib.hid hL0
  clear hg1 hL0
  unfold tokAgg
  go_wp2_with (fail)
  generalize hW : w1.alloc (.cells #[.int .i64 kd, .string ⟨#[45]⟩, .int .i64 nm, .int .i64 ln, .int .i64 cl] 132) = W
  have hL : Laid2 R w.heap.size w1.heap.size (tokCells ⟨kd, [45], nm, ln, cl⟩) w W := by rw [← hW]; exact HL0.out
  have hrW : Reads R g s W := by rw [← hW]; exact HRW.out
  have hsW : W.heap.size = w1.heap.size + 1 := by rw [← hW]; simp
  clear hW HL0 HRW
  obtain ⟨y0, y1, y2, y3, y4⟩ := five hL.tok
  obtain ⟨⟨z0, z1, z2, z3, z4, z5, z6⟩, f0, f1, f2, f3, f4, f5, f6⟩ := seven hL.res
  have HOP := Lib.hid (oper_in HP.out HF.out hl HK.out hd hrW hL hRw (by omega))
  clear hL hrW
  go_region_with ((first
    | (go_at_call 148; refine (HOP.out _ (by repeat (first | exact grown_refl _ | apply grown_drew))).mono ?_; rintro e' w9 ⟨k5, l5, c5, n5, m5, o5, a5, b5, d5, rfl, hat5, hL5, hr5, hz5⟩; obtain ⟨y0, y1, y2, y3, y4⟩ := five hL5.tok; have hlt10 : w1.heap.size < w9.heap.size := (by omega); have HBI := Lib.hid (both_in (ln := ln) (cl := cl) hL5 hr5 hat5 (by omega) (by omega) hRw (by omega)); clear hat5 hL5 hr5; unfold cells7)
    | (go_at_call 142; refine (HBI.out _ (by repeat (first | exact grown_refl _ | apply grown_drew))).mono ?_; rintro e' w10 ⟨k6, l6, c6, n6, m6, o6, a6, b6, d6, rfl, hat6, hL6, hr6⟩; obtain ⟨⟨z0, z1, z2, z3, z4, z5, z6⟩, f0, f1, f2, f3, f4, f5, f6⟩ := seven hL6.res; have HAT6 := Lib.hid hat6; have HL6 := Lib.hid hL6; have HR6 := Lib.hid hr6; clear hat6 hL6 hr6; unfold cells7)))
  all_goals go_wp2_with (fail)
  all_goals
    refine bodyPost_ret (v := .agg (cells7 k6 l6 c6 n6 m6 o6 (.slice a6 b6 d6))) (by simp [results, Tryz.results147, go_sem, cells7, z0, z1, z2, z3, z4, z5, z6]) rfl ?_
    rw [HV.out]
    refine ex_end (r := w.heap.size) ?_ HAT6.out (fun q hq => by have : w.heap.size + 1 ≤ q := hq; omega) (Nat.le_refl _) hRw HL6.out.went HR6.out
    repeat (first | with_reducible (refine Sets.set ?_ _ _) | with_reducible (refine Sets.drew ?_) | with_reducible (exact Sets.refl _ _))
end Go.Proofs.YtaomlahphlemdaaGreatDoor
