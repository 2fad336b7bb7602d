/-
  FlowTree: what is over what.
-/
import Derived.Test.YtipongpgmbhpkaaDomBF
namespace Go.Proofs.Ytipongpgmbhpkaa
set_option linter.unusedVariables false

theorem tt_bool {out : List Bool} {v : Nat} : Tt out v ↔ out.getD v false = true := Iff.rfl
theorem outs_len (ways : List (List Int)) : (outsOf ways).length = ways.length := by unfold outsOf; simp
theorem outs_ne {ways : List (List Int)} (h : ways ≠ []) : outsOf ways ≠ [] := by
  intro e
  have := outs_len ways
  rw [e] at this
  exact h (List.length_eq_zero_iff.1 this.symm)
theorem bool_iff {a b : Bool} (h : a = true ↔ b = true) : a = b := by
  cases a <;> cases b <;> simp_all
section
variable {ways : List (List Int)} (h : ways ≠ [])
include h
theorem over_all {b : Nat} (hb : b < ways.length) : (ofL (outsOf ways)).over b b = (fromL ways ((0 : Nat) : Int) (-1)).getD b false := by
  refine bool_iff ?_
  rw [over_iff (outs_ne h) (by rw [outs_len]; exact hb) (by rw [outs_len]; exact hb), ← tt_bool, all_num h hb]
  exact ⟨fun c => c.1, fun c => ⟨c, c, .refl _⟩⟩
theorem over_zero {b : Nat} (hb : b < ways.length) : (ofL (outsOf ways)).over ((0 : Nat) : Int) b = (fromL ways ((0 : Nat) : Int) (-1)).getD b false := by
  refine bool_iff ?_
  have hw := walked_end (outs_ne h)
  rw [over_iff (outs_ne h) (by rw [outs_len]; omega) (by rw [outs_len]; exact hb), ← tt_bool, all_num h hb]
  refine ⟨fun c => c.2.1, fun c => ⟨by rw [hw.root]; decide, c, ?_⟩⟩
  rw [hw.root]
  rcases hw.num b (by rw [outs_len]; exact hb) with e | ⟨e1, e2⟩
  · exact absurd e c
  · exact Anc.zero (low_of_walk (outs_ne h)) _ _ (Nat.le_refl _) (by omega)
theorem over_trans {b k m : Nat} (hb : b < ways.length) (hk : k < ways.length) (hm : m < ways.length) (h1 : (ofL (outsOf ways)).over k b = true) (h2 : (ofL (outsOf ways)).over m k = true) : (ofL (outsOf ways)).over m b = true := by
  rw [over_iff (outs_ne h) (by rw [outs_len]; assumption) (by rw [outs_len]; assumption)] at h1 h2 ⊢
  exact ⟨h2.1, h1.2.1, Anc.trans h2.2.2 h1.2.2⟩
theorem over_anti {b k : Nat} (hb : b < ways.length) (hk : k < ways.length) (hne : b ≠ k) (h1 : (ofL (outsOf ways)).over k b = true) : (ofL (outsOf ways)).over b k = false := by
  cases h2 : (ofL (outsOf ways)).over b k
  · rfl
  · exfalso
    have hw := walked_end (outs_ne h)
    have hl := low_of_walk (outs_ne h)
    rw [over_iff (outs_ne h) (by rw [outs_len]; assumption) (by rw [outs_len]; assumption)] at h1 h2
    rcases hw.num b (by rw [outs_len]; exact hb) with e | ⟨e1, e2⟩
    · exact h1.2.1 e
    rcases hw.num k (by rw [outs_len]; exact hk) with e | ⟨e3, e4⟩
    · exact h1.1 e
    have a1 := Anc.le hl h1.2.2 (by omega)
    have a2 := Anc.le hl h2.2.2 (by omega)
    exact hne (hw.inj b k (by rw [outs_len]; exact hb) (by rw [outs_len]; exact hk) (by omega) h1.2.1)
end
end Go.Proofs.Ytipongpgmbhpkaa
