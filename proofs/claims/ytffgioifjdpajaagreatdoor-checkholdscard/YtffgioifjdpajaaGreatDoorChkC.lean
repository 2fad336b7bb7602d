/-
  The checker: variable, array.
-/
import Derived.Test.YtffgioifjdpajaaGreatDoorChkB
namespace Go.Proofs.YtffgioifjdpajaaGreatDoor
open Go.ChangeShapes Go.WideShapes Go.ChangeAt Go.RowKit
set_option linter.unusedVariables false

theorem gl_at {w : World} {S : Nat → Prop} {gs : List Gl} {gv : Value} (h : GlsAt w S gs gv) {j : Nat} (hj : j < gs.length) : ∃ g o cap, gv = .slice (some ⟨g, o, none⟩) gs.length cap ∧ g < w.heap.size ∧ gs.length ≤ cap ∧ gs.length ≤ 4611686018427387904 ∧ w.cell? ⟨g, o + j * 5 + 2, none⟩ = some (.int .i64 (gs.getD j noGl).size) := by
  rcases h with ⟨rfl, _⟩ | ⟨_, g, o, cap, rfl, _, hlt, h1, h2, h3⟩
  · simp at hj
  · refine ⟨g, o, cap, rfl, hlt, h1, h2, ?_⟩
    have := h3 j gs[j] (List.getElem?_eq_getElem hj) 2 (by decide)
    rw [show o + (5 * j + 2) = o + j * 5 + 2 by omega] at this
    rw [this, List.getD_eq_getElem?_getD, List.getElem?_eq_getElem hj]
    rfl
set_option maxHeartbeats 1000000 in
set_option maxRecDepth 100000 in
theorem variable_any {base C G F : Nat} {lv : Value} {k : Ck} {w : World} (h : Checks base C G F lv k w) (x : List UInt8) (hx : x.length ≤ maxLen) : Calls Tryz.prog 70 #[.pointer (some ⟨C, 0, none⟩), .string ⟨x.toArray⟩] w fun e w' => e = .returned (.int .i64 (k.variable x)) ∧ w' = w := by
  obtain ⟨gv, fv, hlt, hgl, _, c0, c1, c2, c3, c4, _, _, _, hf⟩ := h.open
  obtain ⟨l1, l2, l3⟩ := h.looks hx
  have HGI := Lib.hid (h.gi x)
  have HV := Lib.hid (show k.variable x = (match look k.lm x with | some t => t | none => match look k.gm x with | some i => if (k.glAt i).size = 0 then 1 else 0 | none => 0) from rfl)
  clear h hf hx l2
  cases h1 : look k.lm x with
  | some t =>
    rw [h1] at l3 HV
    rw [HV.out]
    simp only [Option.getD_some, Option.isSome_some] at l3
    clear h1 HV l1 HGI
    go_enter Tryz.func70, Tryz.ntmps70
    go_wp2_with (fail)
    go_ret
    exact ⟨rfl, rfl⟩
  | none =>
    rw [h1] at l3 HV
    simp only [Option.getD_none, Option.isSome_none] at l3
    clear h1
    cases h2 : look k.gm x with
    | none =>
      rw [h2] at l1 HV
      rw [HV.out]
      simp only [Option.getD_none, Option.isSome_none] at l1
      clear h2 HV HGI
      go_enter Tryz.func70, Tryz.ntmps70
      go_wp2_with (fail)
      go_ret
      exact ⟨rfl, rfl⟩
    | some i =>
      obtain ⟨j, rfl, hj⟩ := HGI.out i h2
      rw [h2] at l1 HV
      rw [HV.out]
      dsimp only
      simp only [Option.getD_some, Option.isSome_some] at l1
      obtain ⟨g, o, cap, rfl, hg, hcap, hmax, hs⟩ := gl_at hgl hj
      have HS := Lib.hid (show (k.glAt (j : Int)) = k.gs.getD j noGl by unfold Ck.glAt; rw [Int.toNat_natCast])
      rw [HS.out]
      clear h2 HV HGI hgl
      generalize (k.gs.getD j noGl).size = z at hs
      generalize k.gs.length = n at hj hcap hmax c0
      by_cases hz : z = 0
      · have hz1 : (z == 0) = true := by simpa using hz
        rw [if_pos hz]
        clear hz
        go_enter Tryz.func70, Tryz.ntmps70
        go_wp2_with (fail)
        go_ret
        exact ⟨rfl, rfl⟩
      · have hz1 : (z == 0) = false := by simpa using hz
        rw [if_neg hz]
        clear hz
        go_enter Tryz.func70, Tryz.ntmps70
        go_wp2_with (fail)
        go_ret
        exact ⟨rfl, rfl⟩
set_option maxHeartbeats 1000000 in
set_option maxRecDepth 100000 in
theorem array_any {base C G F : Nat} {lv : Value} {k : Ck} {w : World} (h : Checks base C G F lv k w) (x : List UInt8) (hx : x.length ≤ maxLen) : Calls Tryz.prog 71 #[.pointer (some ⟨C, 0, none⟩), .string ⟨x.toArray⟩] w fun e w' => e = .returned (.bool (k.array x)) ∧ w' = w := by
  obtain ⟨gv, fv, hlt, hgl, _, c0, c1, c2, c3, c4, _, _, _, hf⟩ := h.open
  obtain ⟨l1, l2, l3⟩ := h.looks hx
  have HGI := Lib.hid (h.gi x)
  have HV := Lib.hid (show k.array x = (match look k.gm x with | some i => decide (0 < (k.glAt i).size) | none => false) from rfl)
  clear h hf hx l2 l3
  cases h2 : look k.gm x with
  | none =>
    rw [h2] at l1 HV
    rw [HV.out]
    simp only [Option.getD_none, Option.isSome_none] at l1
    clear h2 HV HGI
    go_enter Tryz.func71, Tryz.ntmps71
    go_wp2_with (fail)
    go_ret
    exact ⟨rfl, rfl⟩
  | some i =>
    obtain ⟨j, rfl, hj⟩ := HGI.out i h2
    rw [h2] at l1 HV
    rw [HV.out]
    dsimp only
    simp only [Option.getD_some, Option.isSome_some] at l1
    obtain ⟨g, o, cap, rfl, hg, hcap, hmax, hs⟩ := gl_at hgl hj
    have HS := Lib.hid (show (k.glAt (j : Int)) = k.gs.getD j noGl by unfold Ck.glAt; rw [Int.toNat_natCast])
    rw [HS.out]
    clear h2 HV HGI hgl
    generalize (k.gs.getD j noGl).size = z at hs
    generalize k.gs.length = n at hj hcap hmax c0
    go_enter Tryz.func71, Tryz.ntmps71
    go_wp2_with (fail)
    go_ret
    exact ⟨rfl, rfl⟩
end Go.Proofs.YtffgioifjdpajaaGreatDoor
