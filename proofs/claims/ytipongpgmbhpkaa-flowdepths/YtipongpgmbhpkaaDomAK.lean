/-
  What FlowOrders needs besides: the graph's outs; Order of no blocks; rows that lie below.
-/
import Derived.Test.YtipongpgmbhpkaaDomAJ
namespace Go.Proofs.Ytipongpgmbhpkaa
open Go.ChangeShapes Go.WideShapes Go.ChangeAt Go.RowKit
set_option linter.unusedVariables false

theorem way_outs (src : Nat) : ∀ (r : List Int) (g : Gr), src < g.outs.length → (r.foldl (Gr.way src) g).outs = g.outs.set src (gr g.outs src ++ inRow g.outs.length r)
  | [], g, h => by
    have : gr g.outs (src : Int) = g.outs[src] := by unfold gr; rw [Int.toNat_natCast, List.getD_eq_getElem?_getD, List.getElem?_eq_getElem h]; rfl
    show g.outs = _
    rw [this, show inRow g.outs.length [] = [] from rfl, List.append_nil, List.set_getElem_self]
  | t :: r, g, h => by
    rw [List.foldl_cons]
    by_cases hc : 0 ≤ t ∧ t < (g.outs.length : Int)
    · have hw : Gr.way src g t = ⟨g.outs.set src (gr g.outs src ++ [t]), g.ins.set t.toNat (gr g.ins t ++ [(src : Int)])⟩ := if_pos hc
      rw [hw]
      have hl : (g.outs.set src (gr g.outs src ++ [t])).length = g.outs.length := List.length_set
      rw [way_outs src r _ (by dsimp only; rw [hl]; exact h)]
      dsimp only
      rw [hl]
      have hg : gr (g.outs.set src (gr g.outs src ++ [t])) (src : Int) = gr g.outs src ++ [t] := by
        conv => lhs; unfold gr
        rw [Int.toNat_natCast, List.getD_eq_getElem?_getD, List.getElem?_set_self h]; rfl
      rw [hg, List.set_set]
      congr 1
      unfold inRow
      rw [List.filter_cons_of_pos (by simp only [Bool.and_eq_true, decide_eq_true_eq]; exact hc), List.append_assoc]
      rfl
    · have hw : Gr.way src g t = g := if_neg hc
      rw [hw, way_outs src r _ h]
      congr 2
      unfold inRow
      rw [List.filter_cons_of_neg (by simp only [Bool.and_eq_true, decide_eq_true_eq]; exact hc)]
theorem graph_outs (ways : List (List Int)) : (graphL ways).outs = outsOf ways := by
  have step : ∀ j, j ≤ ways.length → ((ways.zipIdx.take j).foldl grStep (grZero ways)).outs = (ways.take j).map (inRow ways.length) ++ List.replicate (ways.length - j) [] := by
    intro j
    induction j with
    | zero => intro _; unfold grZero; simp [List.map_const']
    | succ j ih =>
      intro hj
      have hjl : j < ways.length := by omega
      have hz := zip_idx (List.getElem?_eq_getElem hjl)
      have hzl := (List.getElem?_eq_some_iff.1 hz).1
      rw [List.take_succ_eq_append_getElem hzl, List.foldl_append, (List.getElem?_eq_some_iff.1 hz).2]
      have ih := ih (by omega)
      generalize (ways.zipIdx.take j).foldl grStep (grZero ways) = g at *
      show (ways[j].foldl (Gr.way j) g).outs = _
      have hgl : g.outs.length = ways.length := by rw [ih]; simp; omega
      rw [way_outs j _ g (by omega), hgl, ih]
      have hA : ((ways.take j).map (inRow ways.length)).length = j := by simp; omega
      have hrep : List.replicate (ways.length - j) ([] : List Int) = [] :: List.replicate (ways.length - (j + 1)) [] := by
        rw [show ways.length - j = (ways.length - (j + 1)) + 1 from by omega]; rfl
      have hgr : gr ((ways.take j).map (inRow ways.length) ++ List.replicate (ways.length - j) []) (j : Int) = [] := by
        unfold gr
        rw [Int.toNat_natCast, List.getD_eq_getElem?_getD, List.getElem?_append_right (by omega), hA, Nat.sub_self, hrep]
        rfl
      rw [hgr, hrep, List.nil_append, List.set_append_right _ _ (by omega), hA, Nat.sub_self, List.set_cons_zero]
      rw [List.take_succ_eq_append_getElem hjl, List.map_append, List.append_assoc]
      rfl
  have := step ways.length (Nat.le_refl _)
  rw [← graphL_eq, List.take_length, Nat.sub_self] at this
  rw [this]
  exact List.append_nil _
theorem visitL_last (ways : List (List Int)) (k : Nat) (b : Int) (x : List Bool × List Int) : ∃ A, (visitL ways (k + 1) b x).2 = A ++ [b] := ⟨_, rfl⟩
set_option maxHeartbeats 8000000 in
set_option maxRecDepth 100000 in
theorem order_none {w : World} {B0 G : Nat} {ov iv : Value} {os js : List Value} {g : Gr} (hg : GrAt B0 w G ov iv os js g) (hne : g.outs = []) :
    Calls Try.prog 15 #[.pointer (some ⟨G, 0, none⟩)] w fun e w' => e = .returned (.slice none 0 0) ∧ w' = w := by
  have hol : os.length = 0 := by rw [hg.lo, hne]; rfl
  obtain ⟨oa, oc, ho⟩ : ∃ a c, ov = .slice a 0 c := by
    have := own_form hg.ho
    rw [hol] at this
    exact this
  have hbox := hg.box
  rw [ho] at hbox
  have HBOX := Lib.hid hbox
  clear hol ho hbox hg
  go_enter Try.func15, Try.ntmps15
  go_wp2_with (fail)
  refine (len_any HBOX.out).mono ?_
  rintro e w5 ⟨rfl, hw⟩
  replace hw := hw.symm
  subst hw
  go_wp2_with (fail)
  go_ret
  exact ⟨rfl, rfl⟩
end Go.Proofs.Ytipongpgmbhpkaa
