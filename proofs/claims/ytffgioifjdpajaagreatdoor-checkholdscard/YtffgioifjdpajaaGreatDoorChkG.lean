/-
  The checker: lacks, part, set, put.
-/
import Derived.Test.YtffgioifjdpajaaGreatDoorChkF
namespace Go.Proofs.YtffgioifjdpajaaGreatDoor
open Go.ChangeShapes Go.WideShapes Go.ChangeAt Go.RowKit
set_option linter.unusedVariables false

/-- A statement's own copy, cell by cell. -/
theorem ownS {w : World} {b : Nat} {does l c : Int} {name : List UInt8} {ev tv lv : Value} (h : w.heap[b]? = some (.cells (cellsS does l c name ev tv lv) 56 (0, 0))) :
    w.cell? ⟨b, 0, none⟩ = some (.int .i64 does) ∧ w.cell? ⟨b, 1, none⟩ = some (.int .i64 l) ∧ w.cell? ⟨b, 2, none⟩ = some (.int .i64 c) ∧ w.cell? ⟨b, 3, none⟩ = some (.string ⟨name.toArray⟩) ∧ w.cell? ⟨b, 4, none⟩ = some ev ∧ w.cell? ⟨b, 5, none⟩ = some tv ∧ w.cell? ⟨b, 6, none⟩ = some lv := by
  refine ⟨?_, ?_, ?_, ?_, ?_, ?_, ?_⟩ <;> (rw [Lib.cell_of_heap h]; rfl)
theorem boxS {w w' : World} {C : Nat} {does l c : Int} {name : List UInt8} {ev tv lv : Value} (hC : C < w.heap.size) (ht : Turn (· = C) (w.alloc (.cells (cellsS does l c name ev tv lv) 56)) w') :
    w'.heap[w.heap.size]? = some (.cells (cellsS does l c name ev tv lv) 56 (0, 0)) := (ht.block w.heap.size (by simp) (by omega)).trans (alloc_at _ _ _ rfl)
/-- A statement as it is handed on: its parts below base. -/
structure SmIn (base : Nat) (l c : Int) (es : List Ex) (w : World) (ev : Value) : Prop where
  kids : KidsAt w (· < base) es ev
  short : Ex.shorts es = true
theorem SmIn.turn {base : Nat} {l c : Int} {es : List Ex} {w w' : World} {ev : Value} {X : Nat → Prop} (h : SmIn base l c es w ev) (ht : Turn X w w') (hX : ∀ q, X q → base ≤ q) : SmIn base l c es w' ev :=
  ⟨h.kids.keep (fun q hq _ => hq) (fun q hq hl p => ht.cell hl (fun hx => by have : base ≤ q := hX q hx; have : q < base := hq; omega) p), h.short⟩
set_option maxHeartbeats 1000000 in
set_option maxRecDepth 100000 in
theorem lacks_any {does l c : Int} {name : List UInt8} {es : List Ex} {ev : Value} {ta la : Option Addr} {tn tc ln lc : Nat} {base C G F : Nat} {lv : Value} {k : Ck} {w : World} (i : Nat) (hi : i ≤ 1000) (h : Checks base C G F lv k w) (hs : SmIn base l c es w ev) :
    Calls Tryz.prog 68 #[.pointer (some ⟨C, 0, none⟩), .agg (cellsS does l c name ev (.slice ta tn tc) (.slice la ln lc)), .int .i64 i] w (CkPost base C G F lv (k.unless (decide (i < es.length)) 40 l c) (.bool (decide (es.length ≤ i))) w) := by
  obtain ⟨a, cap, rfl, hmax, _⟩ := kids_parts hs.kids
  have HC := Lib.hid h
  clear h hs
  unfold cellsS
  by_cases hq : i < es.length
  · have q1 : decide ((i : Int) < es.length) = true := by simp; omega
    have q2 : decide (i < es.length) = true := by simpa using hq
    have HV := Lib.hid (show k.unless (decide (i < es.length)) 40 l c = k by rw [q2]; rfl)
    have HR := Lib.hid (show decide (es.length ≤ i) = false by simpa using hq)
    clear q2
    go_enter Tryz.func68, Tryz.ntmps68
    go_wp2_with (fail)
    go_ret
    exact ⟨by rw [HR.out]; rfl, (Turn.refl (· = C) w).alloc _, by rw [HV.out]; exact HC.out.alloc _⟩
  · have q1 : decide ((i : Int) < es.length) = false := by simp; omega
    have q2 : decide (i < es.length) = false := by simpa using hq
    have HV := Lib.hid (show k.unless (decide (i < es.length)) 40 l c = k.fail 40 l c by rw [q2]; rfl)
    have HR := Lib.hid (show decide (es.length ≤ i) = true by simp; omega)
    clear q2
    go_enter Tryz.func68, Tryz.ntmps68
    go_wp2_with (fail)
    refine (ckfail_any (HC.out.alloc _) 40 l c).mono ?_
    rintro e w2 ⟨rfl, ht2, hc2⟩
    have HT2 := Lib.hid ht2; have HC2 := Lib.hid hc2
    clear ht2 hc2
    go_wp2_with (fail)
    go_ret
    exact ⟨by rw [HR.out]; rfl, ((Turn.refl (· = C) w).alloc _).trans HT2.out, by rw [HV.out]; exact HC2.out⟩
set_option maxHeartbeats 2000000 in
set_option maxRecDepth 100000 in
theorem part_any {does l c : Int} {name : List UInt8} {es : List Ex} {ev : Value} {ta la : Option Addr} {tn tc ln lc : Nat} {base C G F : Nat} {lv : Value} {k : Ck} {w : World} (i : Nat) (hi : i ≤ 1000) (t : Int) (h : Checks base C G F lv k w) (hs : SmIn base l c es w ev) :
    Calls Tryz.prog 46 #[.pointer (some ⟨C, 0, none⟩), .agg (cellsS does l c name ev (.slice ta tn tc) (.slice la ln lc)), .int .i64 i, .int .i64 t] w (CkPost base C G F lv (ckPart es i t l c k) (.tuple #[]) w) := by
  obtain ⟨a, cap, rfl, hmax, hrow⟩ := kids_parts hs.kids
  have HC := Lib.hid h; have HS := Lib.hid hs; have HROW := Lib.hid hrow
  have hlt : C < w.heap.size := by obtain ⟨_, _, q, _⟩ := h.open; exact q
  have hlow := h.low.1
  clear h hs hrow
  by_cases hq : i < es.length
  · have HU := Lib.hid (show k.unless (decide (i < es.length)) 40 l c = k by rw [show decide (i < es.length) = true by simpa using hq]; rfl)
    have q1 : decide (es.length ≤ i) = false := by simpa using hq
    have HP := Lib.hid (show ckPart es i t l c k = ckWant es[i] t k by unfold ckPart; rw [List.getElem?_eq_getElem hq])
    have hne : es ≠ [] := by intro q; rw [q] at hq; simp at hq
    obtain ⟨g, o, rfl, hg, hcap, hr⟩ := HROW.out hne
    have hgl : g < w.heap.size := by
      cases hq2 : es with
      | nil => exact absurd hq2 hne
      | cons x r => rw [hq2] at hr; exact hr.lt
    have HR := Lib.hid hr
    clear hne hr
    unfold cellsS
    go_enter Tryz.func46, Tryz.ntmps46
    go_wp2_with (fail)
    refine (lacks_any i hi (HC.out.alloc _) (HS.out.turn ((Turn.refl (· = C) w).alloc _) (fun q hq => by subst hq; exact hlow))).mono ?_
    rintro e w1 ⟨rfl, ht1, hc1⟩
    rw [HU.out] at hc1
    obtain ⟨d0, d1, d2, d3, d4, d5, d6⟩ := ownS (boxS hlt ht1)
    have hsz : w.heap.size < w1.heap.size := (Array.getElem?_eq_some_iff.1 (boxS hlt ht1)).1
    have hT := ((Turn.refl (· = C) w).alloc (.cells (cellsS does l c name (.slice (some ⟨g, o, none⟩) es.length cap) (.slice ta tn tc) (.slice la ln lc)) 56)).trans ht1
    have hrow2 := Row.turn hg hgl HR.out hT (fun q hq => by subst hq; exact hlow)
    obtain ⟨kd, ln2, cl, nu, nm, opp, xa, xn, xc, hkat, r0, r1, r2, r3, r4, r5, r6⟩ := kid_cells hrow2 i hq
    have hgr : g < w1.heap.size := Nat.lt_of_lt_of_le hgl hT.size
    have HT := Lib.hid hT; have HC1 := Lib.hid hc1; have HK := Lib.hid hkat
    clear ht1 hc1 hT hrow2 hkat
    go_wp2_with (fail)
    refine (ckwant_any (ckexpr_any _ (Ex.shorts_at HS.out.short i hq)) _ t HC1.out HK.out).mono ?_
    rintro e w2 ⟨rfl, ht2, hc2⟩
    have HT2 := Lib.hid ht2; have HC2 := Lib.hid hc2
    clear ht2 hc2
    go_wp2_with (fail)
    go_end0
    exact ⟨rfl, HT.out.trans HT2.out, by rw [HP.out]; exact HC2.out⟩
  · have HU := Lib.hid (show k.unless (decide (i < es.length)) 40 l c = k.fail 40 l c by rw [show decide (i < es.length) = false by simpa using hq]; rfl)
    have q1 : decide (es.length ≤ i) = true := by simp; omega
    have HP := Lib.hid (show ckPart es i t l c k = k.fail 40 l c by unfold ckPart; rw [List.getElem?_eq_none (by omega)])
    unfold cellsS
    go_enter Tryz.func46, Tryz.ntmps46
    go_wp2_with (fail)
    refine (lacks_any i hi (HC.out.alloc _) (HS.out.turn ((Turn.refl (· = C) w).alloc _) (fun q hq => by subst hq; exact hlow))).mono ?_
    rintro e w1 ⟨rfl, ht1, hc1⟩
    rw [HU.out] at hc1
    have HT1 := Lib.hid ht1; have HC1 := Lib.hid hc1
    clear ht1 hc1
    go_wp2_with (fail)
    go_end0
    exact ⟨rfl, ((Turn.refl (· = C) w).alloc _).trans HT1.out, by rw [HP.out]; exact HC1.out⟩
end Go.Proofs.YtffgioifjdpajaaGreatDoor
