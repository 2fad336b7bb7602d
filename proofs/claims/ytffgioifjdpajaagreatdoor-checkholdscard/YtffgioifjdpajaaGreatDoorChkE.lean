/-
  The checker: value, index, both, call, expr.
-/
import Derived.Test.YtffgioifjdpajaaGreatDoorChkD
namespace Go.Proofs.YtffgioifjdpajaaGreatDoor
open Go.ChangeShapes Go.WideShapes Go.ChangeAt Go.RowKit
set_option linter.unusedVariables false

set_option maxHeartbeats 1000000 in
set_option maxRecDepth 100000 in
theorem value_any {line col num : Int} {name : List UInt8} {op : Int} {kids : List Ex} (hn : name.length ≤ 65536) {base C G F : Nat} {lv : Value} {k : Ck} {w : World} (cs : Array Value) (h : Checks base C G F lv k w) (hat : (Ex.mk 3 line col num name op kids).At w (· < base) cs) :
    Calls Tryz.prog 81 #[.pointer (some ⟨C, 0, none⟩), .agg cs] w (CkPost base C G F lv (k.unless (!(k.variable name == 0)) 21 line col) (.int .i64 (k.variable name)) w) := by
  obtain ⟨_, v, rfl, hk⟩ := at_kids_of hat
  obtain ⟨a, cap, rfl, _⟩ := kids_parts hk
  have hlen : name.length ≤ maxLen := by unfold maxLen; omega
  have HC := Lib.hid h; have HLEN := Lib.hid hlen
  clear h hat hk hn hlen
  unfold cells7
  go_enter Tryz.func81, Tryz.ntmps81
  go_wp2_with (fail)
  refine (variable_any (HC.out.alloc _) name HLEN.out).mono ?_
  rintro e w1 ⟨rfl, rfl⟩
  rcases Bool.eq_false_or_eq_true (k.variable name == 0) with hb | hb
  · have HV := Lib.hid (show k.unless (!(k.variable name == 0)) 21 line col = k.fail 21 line col by rw [hb]; rfl)
    go_wp2_with (fail)
    refine (ckfail_any (HC.out.alloc _) 21 line col).mono ?_
    rintro e w2 ⟨rfl, ht2, hc2⟩
    have HT2 := Lib.hid ht2; have HC2 := Lib.hid hc2
    clear ht2 hc2
    go_wp2_with (fail)
    go_ret
    exact ⟨rfl, ((Turn.refl (· = C) w).alloc _).trans HT2.out, by rw [HV.out]; exact HC2.out⟩
  · have HV := Lib.hid (show k.unless (!(k.variable name == 0)) 21 line col = k by rw [hb]; rfl)
    go_wp2_with (fail)
    go_ret
    exact ⟨rfl, (Turn.refl (· = C) w).alloc _, by rw [HV.out]; exact HC.out.alloc _⟩
set_option maxHeartbeats 1000000 in
set_option maxRecDepth 100000 in
theorem index_any {line col num : Int} {name : List UInt8} {op : Int} {kids : List Ex} (hn : name.length ≤ 65536) (hex : ∀ i (h : i < kids.length), ExOk kids[i]) {base C G F : Nat} {lv : Value} {k : Ck} {w : World} (cs : Array Value) (h : Checks base C G F lv k w) (hat : (Ex.mk 4 line col num name op kids).At w (· < base) cs) :
    Calls Tryz.prog 82 #[.pointer (some ⟨C, 0, none⟩), .agg cs] w (CkPost base C G F lv (ckKids kids 1 ((k.unless (k.array name) 21 line col).unless (kids.length == 1) 40 line col)) (.int .i64 1) w) := by
  have HAT := Lib.hid hat
  obtain ⟨_, v, rfl, hk⟩ := at_kids_of hat
  obtain ⟨a, cap, rfl, _⟩ := kids_parts hk
  have hlen : name.length ≤ maxLen := by unfold maxLen; omega
  have HC := Lib.hid h; have HLEN := Lib.hid hlen; have HEX := Lib.hid hex
  have hlt : C < w.heap.size := by obtain ⟨_, _, q, _⟩ := h.open; exact q
  have hlow := h.low.1
  clear h hat hk hn hlen hex
  unfold cells7
  go_enter Tryz.func82, Tryz.ntmps82
  go_wp2_with (fail)
  refine (array_any (HC.out.alloc _) name HLEN.out).mono ?_
  rintro e w1 ⟨rfl, rfl⟩
  rcases Bool.eq_false_or_eq_true (k.array name) with hb | hb
  · have HV := Lib.hid (show k.unless (k.array name) 21 line col = k by rw [hb]; rfl)
    go_wp2_with (fail)
    refine (ckkids_any HEX.out _ 1 (by omega) 1 (HC.out.alloc _) (At.alloc HAT.out _)).mono ?_
    rintro e w2 ⟨rfl, ht2, hc2⟩
    have HT2 := Lib.hid ht2; have HC2 := Lib.hid hc2
    clear ht2 hc2
    go_wp2_with (fail)
    go_ret
    exact ⟨rfl, ((Turn.refl (· = C) w).alloc _).trans HT2.out, by rw [HV.out]; exact HC2.out⟩
  · have HV := Lib.hid (show k.unless (k.array name) 21 line col = k.fail 21 line col by rw [hb]; rfl)
    go_wp2_with (fail)
    refine (ckfail_any (HC.out.alloc _) 21 line col).mono ?_
    rintro e w2 ⟨rfl, ht2, hc2⟩
    have hbx := box7 hlt ht2
    obtain ⟨d0, d1, d2, d3, d4, d5, d6⟩ := own7 hbx
    have hsz : w.heap.size < w2.heap.size := (Array.getElem?_eq_some_iff.1 hbx).1
    have HT2 := Lib.hid ht2; have HC2 := Lib.hid hc2
    have HAT2 := Lib.hid (At.turn (At.alloc HAT.out _) ht2 (fun q hq => by subst hq; exact hlow))
    clear ht2 hc2 hbx
    go_wp2_with (fail)
    refine (ckkids_any HEX.out _ 1 (by omega) 1 HC2.out HAT2.out).mono ?_
    rintro e w3 ⟨rfl, ht3, hc3⟩
    have HT3 := Lib.hid ht3; have HC3 := Lib.hid hc3
    clear ht3 hc3
    go_wp2_with (fail)
    go_ret
    exact ⟨rfl, (((Turn.refl (· = C) w).alloc _).trans HT2.out).trans HT3.out, by rw [HV.out]; exact HC3.out⟩
set_option maxHeartbeats 400000 in
theorem knownOp_any (o : Int) (w : World) : Calls Tryz.prog 94 #[.int .i64 o] w fun e w' => e = .returned (.bool (knownOp o)) ∧ w = w' := by
  unfold knownOp
  by_cases h1 : 1 ≤ o
  · go_enter Tryz.func94, Tryz.ntmps94
    go_wp2_with (fail)
    go_ret
    exact ⟨by simp [h1], rfl⟩
  · have h1' : decide (1 ≤ o) = false := by simpa using h1
    go_enter Tryz.func94, Tryz.ntmps94
    go_wp2_with (fail)
    go_ret
    exact ⟨by simp, rfl⟩
set_option maxHeartbeats 400000 in
theorem truthOp_any (o : Int) (w : World) : Calls Tryz.prog 95 #[.int .i64 o] w fun e w' => e = .returned (.bool (truthOp o)) ∧ w = w' := by
  unfold truthOp
  by_cases h1 : 11 ≤ o
  · go_enter Tryz.func95, Tryz.ntmps95
    go_wp2_with (fail)
    go_ret
    exact ⟨by simp [h1], rfl⟩
  · have h1' : decide (11 ≤ o) = false := by simpa using h1
    go_enter Tryz.func95, Tryz.ntmps95
    go_wp2_with (fail)
    go_ret
    exact ⟨by simp, rfl⟩
set_option maxHeartbeats 2000000 in
set_option maxRecDepth 100000 in
theorem both_ck {line col num : Int} {name : List UInt8} {op : Int} {kids : List Ex} (hex : ∀ i (h : i < kids.length), ExOk kids[i]) {base C G F : Nat} {lv : Value} {k : Ck} {w : World} (cs : Array Value) (h : Checks base C G F lv k w) (hat : (Ex.mk 6 line col num name op kids).At w (· < base) cs) :
    Calls Tryz.prog 84 #[.pointer (some ⟨C, 0, none⟩), .agg cs] w (CkPost base C G F lv ((ckKids kids 1 (k.unless (kids.length == 2) 40 line col)).unless (knownOp op && !(op == 15)) 40 line col) (.int .i64 (bothT op)) w) := by
  have HAT := Lib.hid hat
  obtain ⟨_, v, rfl, hk⟩ := at_kids_of hat
  obtain ⟨a, cap, rfl, _⟩ := kids_parts hk
  have HC := Lib.hid h; have HEX := Lib.hid hex
  have hlt : C < w.heap.size := by obtain ⟨_, _, q, _⟩ := h.open; exact q
  have hlow := h.low.1
  clear h hat hk hex
  unfold cells7
  go_enter Tryz.func84, Tryz.ntmps84
  go_wp2_with (fail)
  refine (ckkids_any HEX.out _ 2 (by omega) 1 (HC.out.alloc _) (At.alloc HAT.out _)).mono ?_
  rintro e w1 ⟨rfl, ht1, hc1⟩
  have hbx := box7 hlt ht1
  obtain ⟨d0, d1, d2, d3, d4, d5, d6⟩ := own7 hbx
  have hsz : w.heap.size < w1.heap.size := (Array.getElem?_eq_some_iff.1 hbx).1
  have HT1 := Lib.hid ht1; have HC1 := Lib.hid hc1
  clear ht1 hc1
  have HBX := Lib.hid hbx
  clear hbx
  by_cases h15 : op = 15
  · subst h15
    have HKO := Lib.hid (fun w => knownOp_any 15 w); have HTR := Lib.hid (fun w => truthOp_any 15 w)
    have hko : knownOp 15 = true := rfl
    have htr : truthOp 15 = true := rfl
    have HB := Lib.hid (show bothT 15 = 2 from rfl)
    go_wp2_with (fail)
    refine (HKO.out _).mono ?_
    rintro e w2 ⟨rfl, rfl⟩
    go_wp2_with (fail)
    refine (ckfail_any HC1.out 40 line col).mono ?_
    rintro e w3 ⟨rfl, ht3, hc3⟩
    obtain ⟨f0, f1, f2, f3, f4, f5, f6⟩ := own7 ((ht3.block _ hsz (by omega)).trans HBX.out)
    have hsz3 : w.heap.size < w3.heap.size := by have := ht3.size; omega
    have HT3 := Lib.hid ht3; have HC3 := Lib.hid hc3
    clear ht3 hc3
    go_wp2_with (fail)
    refine (HTR.out _).mono ?_
    rintro e w4 ⟨rfl, rfl⟩
    go_wp2_with (fail)
    go_ret
    exact ⟨by rw [HB.out]; rfl, (((Turn.refl (· = C) w).alloc _).trans HT1.out).trans HT3.out, HC3.out⟩
  · have h15 : (op == 15) = false := by simpa using h15
    have HKO := Lib.hid (fun w => knownOp_any op w); have HTR := Lib.hid (fun w => truthOp_any op w)
    rcases Bool.eq_false_or_eq_true (knownOp op) with hko | hko <;> rcases Bool.eq_false_or_eq_true (truthOp op) with htr | htr
    case inl.inl =>
      have HV := Lib.hid (show (knownOp op && !(op == 15)) = true by rw [hko, h15]; rfl)
      have HB := Lib.hid (show bothT op = 2 by unfold bothT; rw [htr]; rfl)
      go_wp2_with (fail)
      refine (HKO.out _).mono ?_
      rintro e w2 ⟨rfl, rfl⟩
      go_wp2_with (fail)
      refine (HTR.out _).mono ?_
      rintro e w2 ⟨rfl, rfl⟩
      go_wp2_with (fail)
      go_ret
      exact ⟨by rw [HB.out]; rfl, ((Turn.refl (· = C) w).alloc _).trans HT1.out, by rw [HV.out]; exact HC1.out⟩
    case inl.inr =>
      have HV := Lib.hid (show (knownOp op && !(op == 15)) = true by rw [hko, h15]; rfl)
      have HB := Lib.hid (show bothT op = 1 by unfold bothT; rw [htr]; rfl)
      go_wp2_with (fail)
      refine (HKO.out _).mono ?_
      rintro e w2 ⟨rfl, rfl⟩
      go_wp2_with (fail)
      refine (HTR.out _).mono ?_
      rintro e w2 ⟨rfl, rfl⟩
      go_wp2_with (fail)
      go_ret
      exact ⟨by rw [HB.out]; rfl, ((Turn.refl (· = C) w).alloc _).trans HT1.out, by rw [HV.out]; exact HC1.out⟩
    case inr.inl =>
      have HV := Lib.hid (show (knownOp op && !(op == 15)) = false by rw [hko, h15]; rfl)
      have HB := Lib.hid (show bothT op = 2 by unfold bothT; rw [htr]; rfl)
      go_wp2_with (fail)
      refine (HKO.out _).mono ?_
      rintro e w2 ⟨rfl, rfl⟩
      go_wp2_with (fail)
      refine (ckfail_any HC1.out 40 line col).mono ?_
      rintro e w3 ⟨rfl, ht3, hc3⟩
      obtain ⟨f0, f1, f2, f3, f4, f5, f6⟩ := own7 ((ht3.block _ hsz (by omega)).trans HBX.out)
      have hsz3 : w.heap.size < w3.heap.size := by have := ht3.size; omega
      have HT3 := Lib.hid ht3; have HC3 := Lib.hid hc3
      clear ht3 hc3
      go_wp2_with (fail)
      refine (HTR.out _).mono ?_
      rintro e w4 ⟨rfl, rfl⟩
      go_wp2_with (fail)
      go_ret
      exact ⟨by rw [HB.out]; rfl, (((Turn.refl (· = C) w).alloc _).trans HT1.out).trans HT3.out, by rw [HV.out]; exact HC3.out⟩
    case inr.inr =>
      have HV := Lib.hid (show (knownOp op && !(op == 15)) = false by rw [hko, h15]; rfl)
      have HB := Lib.hid (show bothT op = 1 by unfold bothT; rw [htr]; rfl)
      go_wp2_with (fail)
      refine (HKO.out _).mono ?_
      rintro e w2 ⟨rfl, rfl⟩
      go_wp2_with (fail)
      refine (ckfail_any HC1.out 40 line col).mono ?_
      rintro e w3 ⟨rfl, ht3, hc3⟩
      obtain ⟨f0, f1, f2, f3, f4, f5, f6⟩ := own7 ((ht3.block _ hsz (by omega)).trans HBX.out)
      have hsz3 : w.heap.size < w3.heap.size := by have := ht3.size; omega
      have HT3 := Lib.hid ht3; have HC3 := Lib.hid hc3
      clear ht3 hc3
      go_wp2_with (fail)
      refine (HTR.out _).mono ?_
      rintro e w4 ⟨rfl, rfl⟩
      go_wp2_with (fail)
      go_ret
      exact ⟨by rw [HB.out]; rfl, (((Turn.refl (· = C) w).alloc _).trans HT1.out).trans HT3.out, by rw [HV.out]; exact HC3.out⟩
end Go.Proofs.YtffgioifjdpajaaGreatDoor
