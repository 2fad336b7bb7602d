/-
  dom: Over.
-/
import Derived.Test.YtipongpgmbhpkaaDomD
import Derived.IntWalk
import Derived.Deep.QuietTactic
import Derived.BigQuiet
namespace Go.Proofs.Ytipongpgmbhpkaa
open Go.ChangeShapes Go.WideShapes Go.ChangeAt Go.RowKit
open Go.Proofs.Ytipongpgmbhpkaa.RegInv
set_option linter.unusedVariables false
theorem below_drewN {B : Nat} {a w : World} (h : Below B a w) (n : Nat) : Below B a (w.drewN n) := ⟨h.os, h.tape, h.output, h.size, h.block⟩

set_option maxHeartbeats 1000000 in
set_option maxRecDepth 100000 in
theorem over_any {B : Nat} {w : World} {av sv : Value} {at' size : List Int} (ha : RowAt B w av at') (hs : RowAt B w sv size) (hl : size.length = at'.length) (a b : Nat) (xa xb ya : Int) (h1 : at'[a]? = some xa) (h2 : at'[b]? = some xb) (h3 : size[a]? = some ya) (hin : -9223372036854775808 ≤ xa + ya ∧ xa + ya ≤ 9223372036854775807) :
    Calls Try.prog 20 #[.agg #[av, sv], .int .i64 a, .int .i64 b] w fun e w' => e = .returned (.bool (decide (xa ≤ xb) && decide (xb < xa + ya))) ∧ Below w.heap.size w w' := by
  have hal : a < at'.length := (List.getElem?_eq_some_iff.1 h1).1
  have hbl : b < at'.length := (List.getElem?_eq_some_iff.1 h2).1
  obtain ⟨b1, o1, c1, rfl, _, l1, g1⟩ := ha.lies.resolve_left (fun h => by rw [h.2] at hal; simp at hal)
  obtain ⟨b2, o2, c2, rfl, _, l2, g2⟩ := hs.lies.resolve_left (fun h => by rw [h.2] at hl; simp at hl; omega)
  rw [hl]
  have k1 := g1 a xa h1
  have k2 := g1 b xb h2
  have k3 := g2 a ya h3
  have i1 : (a : Int) < (at'.length : Int) := by omega
  have i2 : (b : Int) < (at'.length : Int) := by omega
  have hw : wrap64 (xa + ya) = xa + ya := Go.IntWalk.wrap64_in _ hin
  clear ha hs g1 g2 h1 h2 h3 hl
  have hb : Below w.heap.size w (w.alloc (.cells #[.slice (some ⟨b1, o1, none⟩) at'.length c1, .slice (some ⟨b2, o2, none⟩) at'.length c2] 53 (0, 0))) := (Below.refl _ _).alloc (Nat.le_refl _) _
  have m1 := (hb.cell (p := ⟨b1, o1 + a, none⟩) l1).trans k1
  have m2 := (hb.cell (p := ⟨b1, o1 + b, none⟩) l1).trans k2
  have m3 := (hb.cell (p := ⟨b2, o2 + a, none⟩) l2).trans k3
  have hh := alloc_at w (.cells #[.slice (some ⟨b1, o1, none⟩) at'.length c1, .slice (some ⟨b2, o2, none⟩) at'.length c2] 53 (0, 0)) _ rfl
  have m4 := cell_ok hh 0
  have m5 := cell_ok hh 1
  have HB := Lib.hid hb
  have hw2 : IntKind.i64.wrap (xa + ya) = xa + ya := by rw [Go.IntWalk.i64_left]; exact hw
  clear k1 k2 k3 hh hb
  by_cases hc : xa ≤ xb
  · have e1 : decide (xa ≤ xb) = true := decide_eq_true hc
    rw [e1]
    simp only [Bool.true_and]
    have HC := Lib.hid hc
    clear hc
    go_enter Try.func20, Try.ntmps20
    go_wp2_with (fail)
    generalize w.alloc (.cells #[.slice (some ⟨b1, o1, none⟩) at'.length c1, .slice (some ⟨b2, o2, none⟩) at'.length c2] 53 (0, 0)) = w1 at *
    go_quiet (fail)
    rw [hw2] at *
    go_wp2_with (fail)
    go_ret
    exact ⟨rfl, below_drewN HB.out _⟩
  · have e1 : decide (xa ≤ xb) = false := decide_eq_false hc
    rw [e1]
    simp only [Bool.false_and]
    have HC := Lib.hid hc
    clear hc
    go_enter Try.func20, Try.ntmps20
    go_wp2_with (fail)
    generalize w.alloc (.cells #[.slice (some ⟨b1, o1, none⟩) at'.length c1, .slice (some ⟨b2, o2, none⟩) at'.length c2] 53 (0, 0)) = w1 at *
    go_quiet (fail)
    go_wp2_with (fail)
    go_ret
    exact ⟨rfl, below_drewN HB.out _⟩
end Go.Proofs.Ytipongpgmbhpkaa
