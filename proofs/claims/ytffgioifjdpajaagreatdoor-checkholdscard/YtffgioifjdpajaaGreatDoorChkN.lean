/-
  The checker: start, sizes.
-/
import Derived.Test.YtffgioifjdpajaaGreatDoorChkL
namespace Go.Proofs.YtffgioifjdpajaaGreatDoor
open Go.ChangeShapes Go.WideShapes Go.ChangeAt Go.RowKit
set_option linter.unusedVariables false

set_option maxHeartbeats 2000000 in
set_option maxRecDepth 100000 in
theorem start_ck {base C G F : Nat} {lv : Value} {k : Ck} {w : World} (h : Checks base C G F lv k w) : Calls Tryz.prog 23 #[.pointer (some ⟨C, 0, none⟩)] w (CkPost base C G F lv (ckStart k) (.tuple #[]) w) := by
  obtain ⟨gv, fv, hlt, _, hfn, c0, c1, c2, c3, c4, _, _, _, _⟩ := h.open
  obtain ⟨_, l2, _⟩ := h.looks (x := mainL) (by decide)
  have HC := Lib.hid h; have HFI := Lib.hid (h.fi mainL)
  clear h
  cases hl : look k.fm mainL with
  | none =>
    have HE := Lib.hid (show ckStart k = k.fail 24 1 1 by unfold ckStart; rw [hl])
    rw [hl] at l2
    simp only [Option.getD_none, Option.isSome_none, mainL] at l2
    rw [HE.out]
    clear hl HE HFI hfn
    go_enter Tryz.func23, Tryz.ntmps23
    go_wp2_with (fail)
    refine (ckfail_any HC.out 24 1 1).mono ?_
    rintro e w2 ⟨rfl, ht2, hc2⟩
    have HT2 := Lib.hid ht2; have HC2 := Lib.hid hc2
    clear ht2 hc2
    go_wp2_with (fail)
    go_end0
    exact ⟨rfl, HT2.out, HC2.out⟩
  | some i =>
    obtain ⟨j, rfl, hj⟩ := HFI.out i hl
    obtain ⟨fg, fo, fcap, pa, pc, rfl, hfg, hfcap, hfmax, hpar⟩ := fn_at hfn hj
    have HFA := Lib.hid (show k.fnAt (j : Int) = k.fs.getD j noFn by unfold Ck.fnAt; rw [Int.toNat_natCast])
    have HE := Lib.hid (show ckStart k = k.unless ((k.fs.getD j noFn).params.length == 0) 24 1 1 by unfold ckStart; rw [hl]; simp only; rw [HFA.out])
    rw [hl] at l2
    simp only [Option.getD_some, Option.isSome_some, mainL] at l2
    rw [HE.out]
    clear hl HE HFI hfn HFA
    generalize (k.fs.getD j noFn).params.length = pn at *
    by_cases hp : pn = 0
    · subst hp
      go_enter Tryz.func23, Tryz.ntmps23
      go_wp2_with (fail)
      go_end0
      exact ⟨rfl, Turn.refl _ _, HC.out⟩
    · have q1 : decide ((0 : Int) < pn) = true := by simp; omega
      have q2 : 0 < pn := by omega
      have HV := Lib.hid (show k.unless (pn == 0) 24 1 1 = k.fail 24 1 1 by unfold Ck.unless; rw [if_neg (by simpa using hp)])
      clear hp
      go_enter Tryz.func23, Tryz.ntmps23
      go_wp2_with (fail)
      refine (ckfail_any HC.out 24 1 1).mono ?_
      rintro e w2 ⟨rfl, ht2, hc2⟩
      have HT2 := Lib.hid ht2; have HC2 := Lib.hid hc2
      clear ht2 hc2
      go_wp2_with (fail)
      go_end0
      exact ⟨rfl, HT2.out, by rw [HV.out]; exact HC2.out⟩
end Go.Proofs.YtffgioifjdpajaaGreatDoor
