/-
  FlowTree.
-/
import Derived.Test.YtipongpgmbhpkaaDomBH
import Derived.Test.YtipongpgmbhpkaaDomBI
import Derived.Test.YtipongpgmbhpkaaDomAL
namespace Go.Proofs.Ytipongpgmbhpkaa
open Go.ChangeShapes Go.WideShapes Go.ChangeAt Go.RowKit
set_option linter.unusedVariables false

set_option maxRecDepth 100000 in
theorem doms_none {w : World} {B0 G : Nat} {ov iv : Value} {os js : List Value} {g : Gr} (hg : GrAt B0 w G ov iv os js g) (hne : g.outs = []) :
    Calls Try.prog 12 #[.pointer (some ⟨G, 0, none⟩)] w fun e w' => e = .returned (.slice none 0 0) ∧ w' = w := by
  have hol : os.length = 0 := by rw [hg.lo, hne]; rfl
  obtain ⟨oa, oc, ho⟩ : ∃ a c, ov = .slice a 0 c := by
    have := own_form hg.ho
    rw [hol] at this
    exact this
  have hbox := hg.box
  rw [ho] at hbox
  have HBOX := Lib.hid hbox
  clear hol ho hbox hg
  go_enter Try.func12, Try.ntmps12
  go_wp2_with (fail)
  refine (len_any HBOX.out).mono ?_
  rintro e w5 ⟨rfl, hw⟩
  replace hw := hw.symm
  subst hw
  go_wp2_with (fail)
  go_ret
  exact ⟨rfl, rfl⟩
/-- A square of bools, as it is read. -/
structure SqAt (w : World) (H n : Nat) (D : Nat → Nat → Bool) : Prop where
  lt : H < w.heap.size
  rows : ∀ b, b < n → ∃ g c, w.cell? ⟨H, b, none⟩ = some (.slice (some ⟨g, 0, none⟩) n c) ∧ g < w.heap.size ∧ ∀ a, a < n → w.cell? ⟨g, a, none⟩ = some (.bool (D b a))
theorem SqAt.below {w w' : World} {H n : Nat} {D : Nat → Nat → Bool} (h : SqAt w H n D) (hb : Below w.heap.size w w') : SqAt w' H n D :=
  ⟨Nat.lt_of_lt_of_le h.lt hb.size, fun b hbn => by
    obtain ⟨g, c, h1, h2, h3⟩ := h.rows b hbn
    exact ⟨g, c, (hb.cell (p := ⟨H, b, none⟩) h.lt).trans h1, Nat.lt_of_lt_of_le h2 hb.size, fun a ha => (hb.cell (p := ⟨g, a, none⟩) h2).trans (h3 a ha)⟩⟩
theorem doms_square {B B' H : Nat} {w : World} {g : Gr} {rs : List (Value × List Bool)} (hpos : 0 < g.outs.length) (hl : rs.length = g.outs.length) (hh : w.ownsRow B 33 1 (.slice (some ⟨H, 0, none⟩) g.outs.length g.outs.length) g.outs.length (rs.map (·.1))) (hb : BagB B' w rs) (hd : rs.map (·.2) = domsL g) : SqAt w H g.outs.length (fun b a => (ofL g.outs).over (a : Int) (b : Int)) := by
  refine ⟨(hh.lt H rfl).2, fun b hbn => ?_⟩
  obtain ⟨r, hr⟩ : ∃ r, rs[b]? = some r := ⟨_, List.getElem?_eq_getElem (by omega)⟩
  have h1 := own_cell hh (j := b) (u := r.1) (by rw [List.getElem?_map, hr]; rfl)
  have h2 := hb.row b r.1 r.2 hr
  have h3 : r.2 = domRow (ofL g.outs) g.outs.length b := by
    have h4 : (rs.map (·.2))[b]? = some r.2 := by rw [List.getElem?_map, hr]; rfl
    rw [hd, domsL_rows, List.getElem?_map, List.getElem?_range hbn] at h4
    exact (Option.some.inj h4).symm
  have h5 : r.2.length = g.outs.length := by rw [h3]; simp [domRow]
  rw [h5] at h2
  rcases own_slice h2 with ⟨_, h0⟩ | ⟨q, c, h0, _, hq, _⟩
  · omega
  · rw [h0] at h1 h2
    refine ⟨q, c, h1, hq, fun a ha => ?_⟩
    refine own_cell h2 ?_
    rw [h3]
    unfold domRow
    rw [List.map_map, List.getElem?_map, List.getElem?_range ha]
    rfl
end Go.Proofs.Ytipongpgmbhpkaa
