/-
  A law's parameter of rows of numbers, as it lies in memory.
-/
import Derived.Test.YtipongpgmbhpkaaPostD
import Derived.Test.YtipongpgmbhpkaaDomAD
import Derived.OpenShut
import Derived.ProofKit
import Derived.Deep.Slices
import Derived.ChangeSlices
namespace Go.Proofs.Ytipongpgmbhpkaa
open Go.ChangeShapes Go.WideShapes Go.ChangeAt Go.RowKit
set_option linter.unusedVariables false

theorem cells35 : Try.prog.cellsOf 35 = 1 := by kernel_rfl
theorem cells3 : Try.prog.cellsOf 3 = 1 := by kernel_rfl
theorem lt_of_cell0 {w : World} {b o : Nat} {v : Value} (h : w.cell? ⟨b, o, none⟩ = some v) : b < w.heap.size := World.block_lt_of_cell? _ _ h
theorem addr_add (b o j : Nat) : (⟨b, o, none⟩ : Addr).add j = ⟨b, o + j, none⟩ := by unfold Addr.add; split <;> simp_all
open Go.Deep in
theorem row_in {H : Type} {enc : TypeId × Value → H} {W : World} {base : Nat} {spare : Nat → Bool} {held : Bool} {fuel : Nat} {v : Value} {x : DataW H × List MemPlace} (h : DataW.trod enc Try.prog W base spare held fuel 35 [v] = some x) : ∃ xs, RowIn W.heap.size W v xs := by
  rcases open_ints Try.underlying35 Try.underlying3 cells3 h with ⟨hcs, _⟩ | ⟨a, len, cap, zs, hcs, _, hl, _, hz, _, hx, _⟩
  · simp only [List.cons.injEq, and_true] at hcs
    subst hcs
    exact ⟨[], none, 0, rfl, fun h => absurd h (by simp)⟩
  · simp only [List.cons.injEq, and_true] at hcs
    subst hcs
    have hle : len ≤ zs.length := by rw [hz]; split <;> omega
    have htl : (zs.take len).length = len := by rw [List.length_take]; omega
    refine ⟨zs.take len, some a, cap, by rw [htl], fun hne => ?_⟩
    rw [htl] at hne
    obtain ⟨b, off, spot⟩ := a
    have h0 := hx 0 (by omega)
    have hspot : spot = none := by
      have := World.cell?_spot h0
      simpa [Addr.add] using this
    subst hspot
    rw [addr_add] at h0
    refine ⟨b, off, rfl, lt_of_cell0 h0, lt_of_cell0 h0, fun j y hy => ?_⟩
    have hj := (List.getElem?_eq_some_iff.1 hy).1
    rw [List.length_take] at hj
    have h1 := hx j (by omega)
    rw [addr_add] at h1
    rw [h1]
    rw [List.getElem?_take, if_pos (by omega)] at hy
    rw [List.getD_eq_getElem?_getD, hy]
    rfl
open Go.Deep in
theorem ways_in {H : Type} {enc : TypeId × Value → H} {W : World} {a0 : Option Addr} {len cap : Nat} {d : DataW H} {p : List MemPlace} (h : DataW.Trod enc Try.prog W 0 (fun _ => true) true 22 (.slice a0 len cap) d p) :
    ∃ ways : List (List Int), ways.length = len ∧ WaysAt W.heap.size W a0 ways := by
  obtain ⟨fuel, hf⟩ := h
  rcases open_slice1 Try.underlying22 cells35 hf with ⟨hcs, _⟩ | ⟨a, len', cap', m, n, V, D, Pl, hcs, _, hl, _, hm, _, hx⟩
  · simp [Value.cells] at hcs
    obtain ⟨rfl, rfl, rfl⟩ := hcs
    exact ⟨[], rfl, fun h => absurd rfl h⟩
  · simp [Value.cells] at hcs
    obtain ⟨rfl, rfl, rfl⟩ := hcs
    have hrow : ∀ i, i < len → ∃ xs, RowIn W.heap.size W (V i) xs := fun i hi => row_in (hx i (by rw [hm]; simp; omega)).2
    obtain ⟨f, hfx⟩ := choose_lt hrow
    refine ⟨(List.range len).map f, by simp, fun hne => ?_⟩
    have hlp : 0 < len := by
      have := List.length_pos_iff.2 hne
      simpa using this
    obtain ⟨b, off, spot⟩ := a
    have h0 := (hx 0 (by rw [hm]; simp; omega)).1
    have hspot : spot = none := by
      have := World.cell?_spot h0
      simpa [Addr.add] using this
    subst hspot
    rw [addr_add] at h0
    refine ⟨b, off, cap, rfl, lt_of_cell0 h0, lt_of_cell0 h0, fun i xs hi => ?_⟩
    have hil : i < len := by have := (List.getElem?_eq_some_iff.1 hi).1; simpa using this
    have hfi : f i = xs := by simpa [hil] using hi
    have h1 := (hx i (by rw [hm]; simp; omega)).1
    rw [addr_add] at h1
    refine ⟨V i, h1, ?_⟩
    rw [← hfi]
    exact hfx i hil
end Go.Proofs.Ytipongpgmbhpkaa
