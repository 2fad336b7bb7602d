/-
  The checker: set, put, let.
-/
import Derived.Test.YtffgioifjdpajaaGreatDoorChkG
namespace Go.Proofs.YtffgioifjdpajaaGreatDoor
open Go.ChangeShapes Go.WideShapes Go.ChangeAt Go.RowKit
set_option linter.unusedVariables false

set_option maxHeartbeats 2000000 in
set_option maxRecDepth 100000 in
theorem set_ck {l c : Int} {name : List UInt8} {es : List Ex} {ev : Value} {ta la : Option Addr} {tn tc ln lc : Nat} {base C G F : Nat} {lv : Value} {k : Ck} {w : World} (hn : name.length ≤ 65536) (h : Checks base C G F lv k w) (hs : SmIn base l c es w ev) :
    Calls Tryz.prog 44 #[.pointer (some ⟨C, 0, none⟩), .agg (cellsS 2 l c name ev (.slice ta tn tc) (.slice la ln lc))] w (CkPost base C G F lv (ckPart es 0 (k.variable name) l c (k.unless (!(k.variable name == 0)) 21 l c)) (.tuple #[]) w) := by
  obtain ⟨a, cap, rfl, hmax, hrow⟩ := kids_parts hs.kids
  have HC := Lib.hid h; have HS := Lib.hid hs
  have hlt : C < w.heap.size := by obtain ⟨_, _, q, _⟩ := h.open; exact q
  have hlow := h.low.1
  have HLEN := Lib.hid (show name.length ≤ maxLen by unfold maxLen; omega)
  clear h hs hrow hn
  unfold cellsS
  go_enter Tryz.func44, Tryz.ntmps44
  go_wp2_with (fail)
  refine (variable_any (HC.out.alloc _) name HLEN.out).mono ?_
  rintro e w1 ⟨rfl, rfl⟩
  rcases Bool.eq_false_or_eq_true (k.variable name == 0) with hb | hb
  · have HV := Lib.hid (show k.unless (!(k.variable name == 0)) 21 l c = k.fail 21 l c by rw [hb]; rfl)
    go_wp2_with (fail)
    refine (ckfail_any (HC.out.alloc _) 21 l c).mono ?_
    rintro e w2 ⟨rfl, ht2, hc2⟩
    obtain ⟨d0, d1, d2, d3, d4, d5, d6⟩ := ownS (boxS hlt ht2)
    have hsz : w.heap.size < w2.heap.size := (Array.getElem?_eq_some_iff.1 (boxS hlt ht2)).1
    have HT2 := Lib.hid (((Turn.refl (· = C) w).alloc _).trans ht2); have HC2 := Lib.hid hc2
    clear ht2 hc2
    go_wp2_with (fail)
    refine (part_any 0 (by omega) _ HC2.out (HS.out.turn HT2.out (fun q hq => by subst hq; exact hlow))).mono ?_
    rintro e w3 ⟨rfl, ht3, hc3⟩
    have HT3 := Lib.hid ht3; have HC3 := Lib.hid hc3
    clear ht3 hc3
    go_wp2_with (fail)
    go_end0
    exact ⟨rfl, HT2.out.trans HT3.out, by rw [HV.out]; exact HC3.out⟩
  · have HV := Lib.hid (show k.unless (!(k.variable name == 0)) 21 l c = k by rw [hb]; rfl)
    go_wp2_with (fail)
    refine (part_any 0 (by omega) _ (HC.out.alloc _) (HS.out.turn ((Turn.refl (· = C) w).alloc _) (fun q hq => by subst hq; exact hlow))).mono ?_
    rintro e w3 ⟨rfl, ht3, hc3⟩
    have HT3 := Lib.hid ht3; have HC3 := Lib.hid hc3
    clear ht3 hc3
    go_wp2_with (fail)
    go_end0
    exact ⟨rfl, ((Turn.refl (· = C) w).alloc _).trans HT3.out, by rw [HV.out]; exact HC3.out⟩
set_option maxHeartbeats 2000000 in
set_option maxRecDepth 100000 in
theorem put_ck {l c : Int} {name : List UInt8} {es : List Ex} {ev : Value} {ta la : Option Addr} {tn tc ln lc : Nat} {base C G F : Nat} {lv : Value} {k : Ck} {w : World} (hn : name.length ≤ 65536) (h : Checks base C G F lv k w) (hs : SmIn base l c es w ev) :
    Calls Tryz.prog 45 #[.pointer (some ⟨C, 0, none⟩), .agg (cellsS 3 l c name ev (.slice ta tn tc) (.slice la ln lc))] w (CkPost base C G F lv (ckPart es 1 1 l c (ckPart es 0 1 l c (k.unless (k.array name) 21 l c))) (.tuple #[]) w) := by
  obtain ⟨a, cap, rfl, hmax, hrow⟩ := kids_parts hs.kids
  have HC := Lib.hid h; have HS := Lib.hid hs
  have hlt : C < w.heap.size := by obtain ⟨_, _, q, _⟩ := h.open; exact q
  have hlow := h.low.1
  have HLEN := Lib.hid (show name.length ≤ maxLen by unfold maxLen; omega)
  clear h hs hrow hn
  unfold cellsS
  go_enter Tryz.func45, Tryz.ntmps45
  go_wp2_with (fail)
  refine (array_any (HC.out.alloc _) name HLEN.out).mono ?_
  rintro e w1 ⟨rfl, rfl⟩
  rcases Bool.eq_false_or_eq_true (k.array name) with hb | hb
  · have HV := Lib.hid (show k.unless (k.array name) 21 l c = k by rw [hb]; rfl)
    go_wp2_with (fail)
    refine (part_any 0 (by omega) _ (HC.out.alloc _) (HS.out.turn ((Turn.refl (· = C) w).alloc _) (fun q hq => by subst hq; exact hlow))).mono ?_
    rintro e w3 ⟨rfl, ht3, hc3⟩
    obtain ⟨d0, d1, d2, d3, d4, d5, d6⟩ := ownS (boxS hlt ht3)
    have hsz : w.heap.size < w3.heap.size := (Array.getElem?_eq_some_iff.1 (boxS hlt ht3)).1
    have HT3 := Lib.hid (((Turn.refl (· = C) w).alloc _).trans ht3); have HC3 := Lib.hid hc3
    clear ht3 hc3
    go_wp2_with (fail)
    refine (part_any 1 (by omega) _ HC3.out (HS.out.turn HT3.out (fun q hq => by subst hq; exact hlow))).mono ?_
    rintro e w4 ⟨rfl, ht4, hc4⟩
    have HT4 := Lib.hid ht4; have HC4 := Lib.hid hc4
    clear ht4 hc4
    go_wp2_with (fail)
    go_end0
    exact ⟨rfl, HT3.out.trans HT4.out, by rw [HV.out]; exact HC4.out⟩
  · have HV := Lib.hid (show k.unless (k.array name) 21 l c = k.fail 21 l c by rw [hb]; rfl)
    go_wp2_with (fail)
    refine (ckfail_any (HC.out.alloc _) 21 l c).mono ?_
    rintro e w2 ⟨rfl, ht2, hc2⟩
    have hbx := boxS hlt ht2
    obtain ⟨d0, d1, d2, d3, d4, d5, d6⟩ := ownS hbx
    have hsz : w.heap.size < w2.heap.size := (Array.getElem?_eq_some_iff.1 hbx).1
    have HT2 := Lib.hid (((Turn.refl (· = C) w).alloc _).trans ht2); have HC2 := Lib.hid hc2; have HBX := Lib.hid hbx
    clear ht2 hc2 hbx
    go_wp2_with (fail)
    refine (part_any 0 (by omega) _ HC2.out (HS.out.turn HT2.out (fun q hq => by subst hq; exact hlow))).mono ?_
    rintro e w3 ⟨rfl, ht3, hc3⟩
    have hbx3 := (ht3.block _ hsz (by omega)).trans HBX.out
    obtain ⟨f0, f1, f2, f3, f4, f5, f6⟩ := ownS hbx3
    have hsz3 : w.heap.size < w3.heap.size := (Array.getElem?_eq_some_iff.1 hbx3).1
    have HT3 := Lib.hid (HT2.out.trans ht3); have HC3 := Lib.hid hc3
    clear ht3 hc3 hbx3
    go_wp2_with (fail)
    refine (part_any 1 (by omega) _ HC3.out (HS.out.turn HT3.out (fun q hq => by subst hq; exact hlow))).mono ?_
    rintro e w4 ⟨rfl, ht4, hc4⟩
    have HT4 := Lib.hid ht4; have HC4 := Lib.hid hc4
    clear ht4 hc4
    go_wp2_with (fail)
    go_end0
    exact ⟨rfl, HT3.out.trans HT4.out, by rw [HV.out]; exact HC4.out⟩
end Go.Proofs.YtffgioifjdpajaaGreatDoor
