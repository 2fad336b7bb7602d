/-
  The law's head.
-/
import Derived.Test.YtipongpgmbhpkaaDomAG
import Derived.KernelRfl
namespace Go.Proofs.Ytipongpgmbhpkaa
open Go.ChangeShapes Go.WideShapes Go.ChangeAt Go.RowKit
set_option linter.unusedVariables false

def headW : List (List Int) := [[1], [2, 3], [1], []]
theorem headOk : fixedOk (graphL headW) = true := by kernel_rfl
theorem headD : depthsL (graphL headW) = [0, 1, 1, 0] := by kernel_rfl
theorem headO : (graphL headW).outs.length = 4 := by kernel_rfl
set_option maxHeartbeats 8000000 in
set_option maxRecDepth 100000 in
theorem head_any {w : World} :
    Calls Try.prog 8 #[] w fun e w' => e = .returned (.bool true) ∧ Below w.heap.size w w' := by
  have HWS := Lib.hid (lit_at w headW (by decide) (by decide))
  have HBL := Lib.hid (foldl_below (litObjs w.heap.size headW) w (Below.refl w.heap.size w) (Nat.le_refl _))
  go_enter Try.func8, Try.ntmps8
  go_wp2_with (fail)
  generalize hgw : (litObjs w.heap.size headW).foldl World.alloc w = w1 at *
  change Calls _ _ _ ((litObjs w.heap.size headW).foldl World.alloc w) _
  rw [hgw]
  clear hgw
  refine (lof_any (ways := headW) HWS.out.ways (by decide) (by decide)).mono ?_
  rintro e w2 ⟨nm, bv, rfl, hb2, hbl⟩
  have HB2 := Lib.hid (HBL.out.trans (hb2.mono HBL.out.size)); have HBLK := Lib.hid hbl
  clear HWS HBL hb2 hbl
  go_wp2_with (fail)
  refine (new_any HBLK.out (by decide) (by decide)).mono ?_
  rintro e w3 ⟨G, ov, iv, os, js, rfl, hb3, hg⟩
  have HB3 := Lib.hid (HB2.out.trans (hb3.mono HB2.out.size)); have HG := Lib.hid hg
  clear HB2 HBLK hb3 hg
  go_wp2_with (fail)
  refine (depths_fixed HG.out headOk).mono ?_
  rintro e w4 ⟨dv, rfl, hb4, hd⟩
  rw [headO, headD] at hd
  have HG4 := Lib.hid (HG.out.below hb4)
  have HB4 := Lib.hid (HB3.out.trans (hb4.mono HB3.out.size))
  rcases own_slice hd with ⟨h0, h1⟩ | ⟨g, c, rfl, _, hgl, hcap⟩
  · cases h1
  have d0 := (own_at hd (j := 0) rfl).1
  have d1 := (own_at hd (j := 1) rfl).1
  have d2 := (own_at hd (j := 2) rfl).1
  have d3 := (own_at hd (j := 3) rfl).1
  have hol : os.length = 4 := by rw [HG4.out.lo, headO]
  obtain ⟨oa, oc, ho⟩ : ∃ a c, ov = .slice a 4 c := by
    have := own_slice HG4.out.ho
    rw [hol] at this
    rcases this with ⟨_, h1⟩ | ⟨q, c, h0, _⟩
    · cases h1
    · exact ⟨_, _, h0⟩
  have hbox := HG4.out.box
  rw [ho] at hbox
  have HLEN := Lib.hid hbox
  clear HB3 HG hb4 hd hbox hol ho
  go_wp2_with (fail)
  refine (len_any HLEN.out).mono ?_
  rintro e w5 ⟨rfl, hw⟩
  replace hw := hw.symm
  subst hw
  go_wp2_with (fail)
  go_ret
  exact ⟨rfl, HB4.out⟩
end Go.Proofs.Ytipongpgmbhpkaa
