/-
  The parser: a program.
-/
import Derived.Test.YtaomlahphlemdaaGreatDoorParAF
import Derived.BigRegion
namespace Go.Proofs.YtaomlahphlemdaaGreatDoor
open Go.ChangeShapes Go.WideShapes Go.ChangeAt Go.RowKit
set_option linter.unusedVariables false

theorem prog_end {R g : Nat} {p : Pr × St} {w w2 w' : World} {gv fv : Value} {css : List (Array Value)} (h : ProgIn w w2 p.1 gv fv css) (hl : p.1.globals.length + p.1.funcs.length ≤ 65537) (hs : Sets w.heap.size w2 w') (hR : R < w.heap.size) (hw : Went R w w2) (hrd : Reads R g p.2 w2) : ProgPost R g p w (.returned (.agg #[gv, fv])) w' :=
  ⟨_, rfl, (prAt_of h hl).keep (by rw [hs.size]; exact Nat.le_refl _) (fun q hq _ => by have : w.heap.size + 2 ≤ q := hq; omega) (fun q hq _ o => World.cell?_of_block (hs.keep q (by have : w.heap.size + 2 ≤ q := hq; omega))), hw.sets (Nat.le_refl _) hs, hrd.sets hR hs⟩

set_option maxHeartbeats 8000000 in
set_option maxRecDepth 100000 in
theorem program_any {R g : Nat} {blk : St → List Sm × St} (s : St) (w : World) (hb : BlockOk R g s.left.length 93 blk) (hbn : NeatL blk) (hgd : Good s) (hd : s.deep + 2 * s.left.length + 1 ≤ 300000) (h : Reads R g s w) :
    Calls Tryz.prog 36 #[.pointer (some ⟨R, 0, none⟩)] w (ProgPost R g (progLoop blk s.left.length ⟨[], []⟩ s) w) := by
  obtain ⟨i0, hi, hz⟩ := Option.map_eq_some_iff.1 infoGlobal
  obtain ⟨hz0, hz1, hz2⟩ : i0.zero = some (.agg zeroG) ∧ i0.size = 5 ∧ i0.bytes = 48 := by simpa using hz
  have HI := Lib.hid hi; have HZ0 := Lib.hid hz0; have HZ1 := Lib.hid hz1; have HZ2 := Lib.hid hz2
  clear hz hi hz0 hz1 hz2
  obtain ⟨j0, hi, hz⟩ := Option.map_eq_some_iff.1 infoFunc
  obtain ⟨hz0, hz1, hz2⟩ : j0.zero = some (.agg zeroF) ∧ j0.size = 5 ∧ j0.bytes = 80 := by simpa using hz
  have HJ := Lib.hid hi; have HY0 := Lib.hid hz0; have HY1 := Lib.hid hz1; have HY2 := Lib.hid hz2
  clear hz hi hz0 hz1 hz2
  have HB := Lib.hid hb; have HBN := Lib.hid hbn; have HR := Lib.hid h; have HGD := Lib.hid hgd
  have hRw := h.size
  have hlen := h.len
  clear hb hbn h hgd
  generalize hN : s.left.length = N at *
  have HN := Lib.hid hN
  clear hN
  go_enter Tryz.func36, Tryz.ntmps36
  go_wp2_with (fail)
  have HAR := Lib.hid (show ProgRow R g N blk (progLoop blk N ⟨[], []⟩ s) s.deep w ((w.alloc (.cells zeroP 25)).alloc (.cells zeroP 25)) from
    ⟨went_alloc (went_none (grown_alloc _ _)) _, N, ⟨[], []⟩, s, none, 0, none, 0, [], ⟨alloc_past _ _ _ _ (by simp) (alloc_at _ _ _ rfl), alloc_at _ _ _ (by simp), World.ownsRow_nil _ _ _ _, World.ownsRow_nil _ _ _ _, trivial, fun b hb => by cases hb⟩, (HR.out.alloc _).alloc _, HGD.out, Nat.le_of_eq HN.out, Nat.le_of_eq HN.out, by simp [HN.out], rfl, rfl⟩)
  go_loopw [] (fun wr => ProgRow R g N blk (progLoop blk N ⟨[], []⟩ s) s.deep w wr) (fun wr => lenOf wr R)
  case atStart => exact HAR.out
  case round =>
    obtain ⟨hwt, k, p, s2, ga, gc, fa, fc, css, hP, hrd, hgd2, hlk, hln, hes, hdd, hgo⟩ := hrel
    have HWT := Lib.hid hwt; have HPI := Lib.hid hP; have HRD := Lib.hid hrd; have HGO := Lib.hid hgo; have HDD := Lib.hid hdd; have HGD2 := Lib.hid hgd2
    have hl1 : 1 ≤ s2.left.length := by have := hrd.last.ne; cases hq : s2.left with | nil => exact absurd hq this | cons => simp
    clear hwt hP hrd hgo hdd hgd2 HAR
    obtain ⟨k, rfl⟩ : ∃ q, k = q + 1 := ⟨k - 1, by omega⟩
    go_wp2_with (fail)
    refine (now_any R g s2 _ HRD.out).mono ?_
    rintro e' w3 ⟨rfl, hg3⟩
    have HG3 := Lib.hid hg3
    have hP3 := HPI.out.went (went_none (R := R) hg3) hRw
    obtain ⟨⟨b0, b1⟩, bf0, bf1⟩ := two hP3.box
    obtain ⟨⟨z0, z1⟩, zf0, zf1⟩ := two hP3.res
    have hlt0 := (Array.getElem?_eq_some_iff.1 hP3.box).1
    have hlt1 := (Array.getElem?_eq_some_iff.1 hP3.res).1
    have HP3 := Lib.hid hP3; have HR3 := Lib.hid (HRD.out.more hg3); have HW3 := Lib.hid (HWT.out.trans (went_none hg3))
    clear hg3 hP3
    cases ht : s2.now with
    | mk kd tx nm ln cl =>
    have HNOW := Lib.hid ht
    clear ht
    unfold tokAgg
    go_wp2_with (fail)
    rw [field_kind]
    simp only [Result.andThen]
    rw [Oper.upon_value]
    by_cases hk : kd = 0
    · have q0 : (kd != 0) = false := by simpa using hk
      have HGE := Lib.hid (show progLoop blk N ⟨[], []⟩ s = (p, s2) by rw [← HGO.out, progLoop, if_pos (by rw [HNOW.out]; exact hk)])
      clear hk
      go_wp2_with (fail)
      refine bodyPost_ret (v := .agg #[.slice ga p.globals.length gc, .slice fa p.funcs.length fc]) (by simp [results, Tryz.results36, go_sem, z0, z1]) rfl ?_
      rw [HGE.out]
      refine prog_end (p := (p, s2)) HP3.out (by show p.globals.length + p.funcs.length ≤ 65537; omega) ?_ hRw HW3.out HR3.out
      repeat (first | with_reducible (refine Sets.set ?_ _ _) | with_reducible (exact Sets.refl _ _))
    · have q0 : (kd != 0) = true := by simpa using hk
      have HK := Lib.hid (show s2.now.kind ≠ 0 by rw [HNOW.out]; exact hk)
      have hl2 := kind_two HRD.out HK.out
      clear hk
      go_wp2_with (fail)
      refine (now_any R g s2 _ HR3.out).mono ?_
      rintro e' w4 ⟨rfl, hg4⟩
      rw [HNOW.out]
      have hP4 := HP3.out.went (went_none (R := R) hg4) hRw
      clear b0 b1 bf0 bf1 z0 z1 zf0 zf1 hlt0 hlt1
      obtain ⟨⟨b0, b1⟩, bf0, bf1⟩ := two hP4.box
      have hlt0 := (Array.getElem?_eq_some_iff.1 hP4.box).1
      have HP4 := Lib.hid hP4; have HR4 := Lib.hid (HR3.out.more hg4); have HW4 := Lib.hid (HW3.out.trans (went_none hg4))
      clear hg4 hP4
      unfold tokAgg
      go_wp2_with (fail)
      rw [field_text]
      simp only [Result.andThen]
      rw [Oper.upon_value]
      by_cases hv : tx = [118, 97, 114]
      · subst hv
        have HST := Lib.hid (show progStep blk p s2 = addG p (pGlobal 0 s2) by unfold progStep; rw [HNOW.out]; rfl)
        have HIN := Lib.hid (prog_g HP4.out HW4.out HR4.out hRw 0)
        go_wp2_with (fail)
        go_region_law (first | (refine step_append_lies _ rfl _ _ 22 rfl (w.heap.size + 2) 51 i0 (.agg zeroG) 5 48 Tryz.underlying22 HI.out HZ0.out HZ1.out HZ2.out rfl (by decide) (.slice ga p.globals.length gc) p.globals.length (glCells p.globals) rfl ?hown ⟨w9.heap.size, 0, none⟩ 1 1 [.string ⟨gn.toArray⟩, .int .i64 gh, .int .i64 gz, .int .i64 gl, .int .i64 gk] rfl rfl ?hnews (five_oneG _ _ _ _ _) (by decide) ?h63 ?hby ?hba (w9.heap.size + 1) ?hH ?_; (case hown => exact HP9.out.og.alloc _); (case hnews => exact cells_at _ [.string ⟨gn.toArray⟩, .int .i64 gh, .int .i64 gz, .int .i64 gl, .int .i64 gk] _ _ rfl); (case h63 => unfold maxLen; omega); (case hby => omega); (case hba => simp; omega); (case hH => simp); intro gb gc2 wB hown hgrow hat hlt; obtain ⟨hbx, hzz⟩ := box_after HP9.out hgrow (own_lo HP9.out.og); obtain ⟨⟨b0, b1⟩, bf0, bf1⟩ := two hbx; have hlt9 := (Array.getElem?_eq_some_iff.1 hbx).1; have HRO := Lib.hid (round_g HBN.out HP9.out HW9.out HR9.out hRw HX.out hown hgrow hat HGD2.out HST.out HK.out hl2 hlk hln hes HDD.out HGO.out); clear hown hgrow hat hbx) | (go_simp; go_at_call 60; refine (HIN.out _ (by repeat (first | exact grown_refl _ | apply grown_drew))).mono ?_; rintro e' w9 ⟨gn, gh, gz, gl, gk, rfl, hx, hP9, hw9, hr9, hz9⟩; obtain ⟨⟨b0, b1⟩, bf0, bf1⟩ := two hP9.box; have hlt8 := (Array.getElem?_eq_some_iff.1 hP9.box).1; have HX := Lib.hid hx; have HP9 := Lib.hid hP9; have HW9 := Lib.hid hw9; have HR9 := Lib.hid hr9; clear hx hP9 hw9 hr9))
        all_goals go_wp2_with (fail)
        all_goals
          go_roundw
          case rel => exact HRO.out.1
          case measure => rw [lenOf_reads HRD.out]; exact HRO.out.2
      by_cases hp : tx = [112, 117, 98, 108, 105, 99]
      · subst hp
        have HST := Lib.hid (show progStep blk p s2 = addG p (pGlobal 1 s2) by unfold progStep; rw [HNOW.out]; rfl)
        have HIN := Lib.hid (prog_g HP4.out HW4.out HR4.out hRw 1)
        go_wp2_with (fail)
        go_region_law (first | (refine step_append_lies _ rfl _ _ 22 rfl (w.heap.size + 2) 51 i0 (.agg zeroG) 5 48 Tryz.underlying22 HI.out HZ0.out HZ1.out HZ2.out rfl (by decide) (.slice ga p.globals.length gc) p.globals.length (glCells p.globals) rfl ?hown ⟨w9.heap.size, 0, none⟩ 1 1 [.string ⟨gn.toArray⟩, .int .i64 gh, .int .i64 gz, .int .i64 gl, .int .i64 gk] rfl rfl ?hnews (five_oneG _ _ _ _ _) (by decide) ?h63 ?hby ?hba (w9.heap.size + 1) ?hH ?_; (case hown => exact HP9.out.og.alloc _); (case hnews => exact cells_at _ [.string ⟨gn.toArray⟩, .int .i64 gh, .int .i64 gz, .int .i64 gl, .int .i64 gk] _ _ rfl); (case h63 => unfold maxLen; omega); (case hby => omega); (case hba => simp; omega); (case hH => simp); intro gb gc2 wB hown hgrow hat hlt; obtain ⟨hbx, hzz⟩ := box_after HP9.out hgrow (own_lo HP9.out.og); obtain ⟨⟨b0, b1⟩, bf0, bf1⟩ := two hbx; have hlt9 := (Array.getElem?_eq_some_iff.1 hbx).1; have HRO := Lib.hid (round_g HBN.out HP9.out HW9.out HR9.out hRw HX.out hown hgrow hat HGD2.out HST.out HK.out hl2 hlk hln hes HDD.out HGO.out); clear hown hgrow hat hbx) | (go_simp; go_at_call 60; refine (HIN.out _ (by repeat (first | exact grown_refl _ | apply grown_drew))).mono ?_; rintro e' w9 ⟨gn, gh, gz, gl, gk, rfl, hx, hP9, hw9, hr9, hz9⟩; obtain ⟨⟨b0, b1⟩, bf0, bf1⟩ := two hP9.box; have hlt8 := (Array.getElem?_eq_some_iff.1 hP9.box).1; have HX := Lib.hid hx; have HP9 := Lib.hid hP9; have HW9 := Lib.hid hw9; have HR9 := Lib.hid hr9; clear hx hP9 hw9 hr9))
        all_goals go_wp2_with (fail)
        all_goals
          go_roundw
          case rel => exact HRO.out.1
          case measure => rw [lenOf_reads HRD.out]; exact HRO.out.2
      by_cases hs : tx = [115, 101, 99, 114, 101, 116]
      · subst hs
        have HST := Lib.hid (show progStep blk p s2 = addG p (pGlobal 2 s2) by unfold progStep; rw [HNOW.out]; rfl)
        have HIN := Lib.hid (prog_g HP4.out HW4.out HR4.out hRw 2)
        go_wp2_with (fail)
        go_region_law (first | (refine step_append_lies _ rfl _ _ 22 rfl (w.heap.size + 2) 51 i0 (.agg zeroG) 5 48 Tryz.underlying22 HI.out HZ0.out HZ1.out HZ2.out rfl (by decide) (.slice ga p.globals.length gc) p.globals.length (glCells p.globals) rfl ?hown ⟨w9.heap.size, 0, none⟩ 1 1 [.string ⟨gn.toArray⟩, .int .i64 gh, .int .i64 gz, .int .i64 gl, .int .i64 gk] rfl rfl ?hnews (five_oneG _ _ _ _ _) (by decide) ?h63 ?hby ?hba (w9.heap.size + 1) ?hH ?_; (case hown => exact HP9.out.og.alloc _); (case hnews => exact cells_at _ [.string ⟨gn.toArray⟩, .int .i64 gh, .int .i64 gz, .int .i64 gl, .int .i64 gk] _ _ rfl); (case h63 => unfold maxLen; omega); (case hby => omega); (case hba => simp; omega); (case hH => simp); intro gb gc2 wB hown hgrow hat hlt; obtain ⟨hbx, hzz⟩ := box_after HP9.out hgrow (own_lo HP9.out.og); obtain ⟨⟨b0, b1⟩, bf0, bf1⟩ := two hbx; have hlt9 := (Array.getElem?_eq_some_iff.1 hbx).1; have HRO := Lib.hid (round_g HBN.out HP9.out HW9.out HR9.out hRw HX.out hown hgrow hat HGD2.out HST.out HK.out hl2 hlk hln hes HDD.out HGO.out); clear hown hgrow hat hbx) | (go_simp; go_at_call 60; refine (HIN.out _ (by repeat (first | exact grown_refl _ | apply grown_drew))).mono ?_; rintro e' w9 ⟨gn, gh, gz, gl, gk, rfl, hx, hP9, hw9, hr9, hz9⟩; obtain ⟨⟨b0, b1⟩, bf0, bf1⟩ := two hP9.box; have hlt8 := (Array.getElem?_eq_some_iff.1 hP9.box).1; have HX := Lib.hid hx; have HP9 := Lib.hid hP9; have HW9 := Lib.hid hw9; have HR9 := Lib.hid hr9; clear hx hP9 hw9 hr9))
        all_goals go_wp2_with (fail)
        all_goals
          go_roundw
          case rel => exact HRO.out.1
          case measure => rw [lenOf_reads HRD.out]; exact HRO.out.2
      by_cases hf : tx = [102, 117, 110, 99]
      · subst hf
        have HST := Lib.hid (show progStep blk p s2 = addF p (pFunc blk s2) by unfold progStep; rw [HNOW.out]; rfl)
        have HIN := Lib.hid (prog_f HB.out HGD2.out hln (by have := HDD.out; omega) HP4.out HW4.out HR4.out hRw)
        have HWZ := Lib.hid (show ∀ q, (Value.slice ga p.globals.length gc).ownBlock = some q ∨ (Value.slice fa p.funcs.length fc).ownBlock = some q → q < w4.heap.size from fun q hq => by rcases hq with hq | hq; exact (HP4.out.og.lt q hq).2; exact (HP4.out.ow.lt q hq).2)
        go_wp2_with (fail)
        go_region_law (first | (refine step_append_lies _ rfl _ _ 23 rfl (w.heap.size + 2) 58 j0 (.agg zeroF) 5 80 Tryz.underlying23 HJ.out HY0.out HY1.out HY2.out rfl (by decide) (.slice fa p.funcs.length fc) p.funcs.length (css.flatMap Array.toList) rfl ?hown ⟨w9.heap.size, 0, none⟩ 1 1 [.string ⟨gn.toArray⟩, .slice pa pb pc, .slice ya yb yc, .int .i64 gl, .int .i64 gk] rfl rfl ?hnews (five_oneF _ _ _ _ _ _ _ _ _) (by decide) ?h63 ?hby ?hba (w9.heap.size + 1) ?hH ?_; (case hown => exact HP9.out.ow.alloc _); (case hnews => exact cells_at _ [.string ⟨gn.toArray⟩, .slice pa pb pc, .slice ya yb yc, .int .i64 gl, .int .i64 gk] _ _ rfl); (case h63 => unfold maxLen; omega); (case hby => omega); (case hba => simp; omega); (case hH => simp); intro gb gc2 wB hown hgrow hat hlt; obtain ⟨hbx, hzz⟩ := box_after HP9.out hgrow (own_lo HP9.out.ow); obtain ⟨⟨b0, b1⟩, bf0, bf1⟩ := two hbx; have hlt9 := (Array.getElem?_eq_some_iff.1 hbx).1; have HRO := Lib.hid (round_f HBN.out HP9.out HW9.out HR9.out hRw HX.out HWZ.out (by omega) hown hgrow hat HGD2.out HST.out HK.out hl2 hlk hln hes HDD.out HGO.out); clear hown hgrow hat hbx) | (go_simp; go_at_call 61; refine (HIN.out _ (by repeat (first | exact grown_refl _ | apply grown_drew))).mono ?_; rintro e' w9 ⟨gn, pa, pb, pc, ya, yb, yc, gl, gk, rfl, hx, hP9, hw9, hr9, hz9⟩; obtain ⟨⟨b0, b1⟩, bf0, bf1⟩ := two hP9.box; have hlt8 := (Array.getElem?_eq_some_iff.1 hP9.box).1; have HX := Lib.hid hx; have HP9 := Lib.hid hP9; have HW9 := Lib.hid hw9; have HR9 := Lib.hid hr9; clear hx hP9 hw9 hr9))
        all_goals go_wp2_with (fail)
        all_goals
          go_roundw
          case rel => exact HRO.out.1
          case measure => rw [lenOf_reads HRD.out]; exact HRO.out.2
      have HST := Lib.hid (show progStep blk p s2 = (p, s2.refuse) by unfold progStep; rw [HNOW.out]; exact (if_neg hv).trans ((if_neg hp).trans ((if_neg hs).trans (if_neg hf))))
      have q1 : (tx == [118, 97, 114]) = false := by simpa using hv
      have q2 : (tx == [112, 117, 98, 108, 105, 99]) = false := by simpa using hp
      have q3 : (tx == [115, 101, 99, 114, 101, 116]) = false := by simpa using hs
      have q4 : (tx == [102, 117, 110, 99]) = false := by simpa using hf
      clear hv hp hs hf
      go_wp2_with (fail)
      refine (refuse_any R g s2 _ HR4.out).mono ?_
      rintro e' w9 ⟨rfl, hw9, hr9⟩
      have HRO := Lib.hid (round_n HBN.out (HP4.out.went hw9 hRw) (HW4.out.trans hw9) hr9 HGD2.out HST.out HK.out hl2 hlk hln hes HDD.out HGO.out)
      clear hw9 hr9
      go_wp2_with (fail)
      go_roundw
      case rel => exact HRO.out.1
      case measure => rw [lenOf_reads HRD.out]; exact HRO.out.2
end Go.Proofs.YtaomlahphlemdaaGreatDoor
