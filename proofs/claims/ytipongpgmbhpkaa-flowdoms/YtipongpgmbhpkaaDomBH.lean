/-
  flow: Doms.
-/
import Derived.Test.YtipongpgmbhpkaaDomBG
namespace Go.Proofs.Ytipongpgmbhpkaa
open Go.ChangeShapes Go.WideShapes Go.ChangeAt Go.RowKit
open Go.Proofs.Ytipongpgmbhpkaa.RegInv
set_option linter.unusedVariables false

def DomsPost (g : Gr) (w : World) (e : Ending) (w' : World) : Prop :=
  ∃ H rs, e = .returned (.slice (some ⟨H, 0, none⟩) g.outs.length g.outs.length) ∧ Below w.heap.size w w' ∧ rs.length = g.outs.length ∧ w'.ownsRow w.heap.size 33 1 (.slice (some ⟨H, 0, none⟩) g.outs.length g.outs.length) g.outs.length (rs.map (·.1)) ∧ BagB w.heap.size w' rs ∧ rs.map (·.2) = domsL g
set_option maxHeartbeats 8000000 in
set_option maxRecDepth 100000 in
theorem doms_any {w : World} {B0 G : Nat} {ov iv : Value} {os js : List Value} {g : Gr} (hg : GrAt B0 w G ov iv os js g) (hne : g.outs ≠ []) (hn : g.outs.length ≤ 1000000) (he : edges g.outs ≤ 1000000) :
    Calls Try.prog 12 #[.pointer (some ⟨G, 0, none⟩)] w (DomsPost g w) := by
  have hpos : 0 < g.outs.length := List.length_pos_iff.2 hne
  have htok := tr_ok hne hn
  obtain ⟨n, hnn⟩ : ∃ n, n = g.outs.length := ⟨_, rfl⟩
  have HN := Lib.hid hnn
  have hol : os.length = n := by rw [hg.lo, hnn]
  obtain ⟨oa, oc, rfl⟩ := own_form hg.ho
  rw [hol] at hg
  have hho := hg.ho
  rw [hol] at hho
  rw [← hnn] at hn hpos htok
  obtain ⟨og, hog⟩ : ∃ og, oa = some ⟨og, 0, none⟩ := by
    rcases own_slice hho with ⟨_, h0⟩ | ⟨q, c, h0, _⟩
    · omega
    · simp only [Value.slice.injEq] at h0; exact ⟨q, h0.1⟩
  subst hog
  have hogl := (hho.lt og rfl).2
  obtain ⟨⟨c0, c1⟩, _, hGl⟩ := tbox hg.box
  have HOUT := Lib.hid (show OutsAt w.heap.size w og 0 oc g.outs from ⟨hogl, hogl, fun i xs hi => by
    have hil : i < n := by rw [hnn]; exact (List.getElem?_eq_some_iff.1 hi).1
    obtain ⟨h0, hh0⟩ : ∃ u, os[i]? = some u := ⟨_, List.getElem?_eq_getElem (by rw [hol]; exact hil)⟩
    exact ⟨h0, by rw [Nat.zero_add]; exact own_cell hho hh0, own_rowAt (hg.bag.row _ _ _ (hg.orow hh0 hi))⟩⟩)
  have HBOX := Lib.hid hg.box; have HTOK := Lib.hid htok
  have HOF := Lib.hid (of_any hne HOUT.out (by omega) he (low_of_walk hne))
  rw [← hnn] at HOF
  unfold DomsPost
  rw [← hnn]
  obtain ⟨res, hres⟩ : ∃ r, r = domsL g := ⟨_, rfl⟩
  have HRES := Lib.hid hres
  rw [← hres]
  obtain ⟨t, ht⟩ : ∃ t, t = ofL g.outs := ⟨_, rfl⟩
  have HT := Lib.hid ht
  rw [← ht] at HTOK HOF
  clear hg hne he htok hho hol hnn hres ht HOUT
  have hmk := run_make_row' (P := Try.prog) 25 33 (.slice none 0 0) 24 Try.underlying25 infoBools rfl .i64 .i64 n (by omega) (by omega)
  have hmb := run_make_row' (P := Try.prog) 33 4 (.bool false) 1 Try.underlying33 infoBool rfl .i64 .i64 n (by omega) (by omega)
  have HMK := Lib.hid hmk; have HMB := Lib.hid hmb
  clear hmk hmb
  have q2 : ¬ (n = 0) := by omega
  have qn : ((n : Int) == 0) = false := by simp; omega
  go_enter Try.func12, Try.ntmps12
  go_upto_region 3 with (go_at_call 17; refine (len_any HBOX.out).mono ?_; rintro e w2 ⟨rfl, hw⟩; replace hw := hw.symm; subst hw)
  go_upto_region 4 with (go_at_call 19; refine HOF.out.mono ?_; rintro e w2 ⟨tv, uv, rfl, hb2, hp2, hq2, hne2⟩; obtain ⟨ta, tc, rfl⟩ := own_form hp2; obtain ⟨ua, uc, rfl⟩ := own_form hq2; have HB2 := Lib.hid hb2; have HP2 := Lib.hid hp2; have HQ2 := Lib.hid hq2; clear hb2 hp2 hq2 hne2)
  have HBX := Lib.hid (alloc_at w2 (.cells #[.slice ta n tc, .slice ua n uc] 53 (0, 0)) w2.heap.size rfl)
  have hba := (Below.refl w2.heap.size w2).alloc (Nat.le_refl _) (.cells #[.slice ta n tc, .slice ua n uc] 53 (0, 0))
  have hz0 : w2.heap.size < (w2.alloc (.cells #[.slice ta n tc, .slice ua n uc] 53 (0, 0))).heap.size := by simp
  have HZ0 := Lib.hid hz0
  change Code.wp _ _ _ _ (w2.alloc (.cells #[.slice ta n tc, .slice ua n uc] 53 (0, 0)))
  have HB3 := Lib.hid (HB2.out.trans (hba.mono HB2.out.size))
  have HP3 := Lib.hid (own_keep HP2.out (fun q hq => hba.block q (HP2.out.lt q hq).2))
  have HQ3 := Lib.hid (own_keep HQ2.out (fun q hq => hba.block q (HQ2.out.lt q hq).2))
  have HT2 := Lib.hid HB2.out.size
  clear hba hz0 HB2 HP2 HQ2
  generalize w2.alloc (.cells #[.slice ta n tc, .slice ua n uc] 53 (0, 0)) = w3 at *
  obtain ⟨T, hT⟩ : ∃ T, T = w2.heap.size := ⟨_, rfl⟩
  rw [← hT] at HBX HZ0 HT2 ⊢
  clear hT
  have HG3 := Lib.hid ((HB3.out.block G hGl).trans HBOX.out)
  have hmk := HMK.out
  go_upto_region 5 with (go_at_call 17; refine (len_any HG3.out).mono ?_; rintro e w5 ⟨rfl, hw⟩; replace hw := hw.symm; subst hw)
  clear hmk
  have hba := (Below.refl w3.heap.size w3).alloc (Nat.le_refl _) (.cells (madeCells #[.slice none 0 0] n) 33)
  have HD4 := Lib.hid (show DmAt w (w3.alloc (.cells (madeCells #[.slice none 0 0] n) 33)) T w3.heap.size (.slice ta n tc) (.slice ua n uc) t n [] from by
    refine ⟨HB3.out.trans (hba.mono HB3.out.size), (hba.block T HZ0.out).trans HBX.out, HT2.out, ?_, ?_, ?_, BagB.nil _ _⟩
    · rw [HTOK.out.pl]; exact own_keep HP3.out (fun q hq => hba.block q (HP3.out.lt q hq).2)
    · rw [HTOK.out.sl]; exact own_keep HQ3.out (fun q hq => hba.block q (HQ3.out.lt q hq).2)
    · refine ⟨by unfold heads; simp, .inr ⟨w3.heap.size, n, _, rfl, HB3.out.size, alloc_at _ _ _ rfl, Nat.le_refl _, by unfold maxLen; omega, ?_, ?_⟩⟩
      · rw [madeCells_one]; simp
      · rw [madeCells_one]; unfold heads; simp)
  clear hba HP3 HQ3 HBX HG3
  obtain ⟨H, hH⟩ : ∃ H, H = w3.heap.size := ⟨_, rfl⟩
  rw [← hH] at HD4 ⊢
  clear hH
  generalize w3.alloc (.cells (madeCells #[.slice none 0 0] n) 33) = w4 at *
  clear HB3 HZ0 HT2 HMK
  have h0n : (0 : Int) ≤ (n : Int) := by omega
  go_wp2_with (fail)
  go_loopw [20] (fun bv wr => ∃ (b : Nat) (rs : List (Value × List Bool)), b ≤ n ∧ bv = .int .i64 b ∧ rs.length = b ∧ rs.map (·.2) = (List.range b).map (fun (c : Nat) => domRow t n c) ∧ DmAt w wr T H (.slice ta n tc) (.slice ua n uc) t n rs) (fun bv _ => n - (intOf bv).toNat)
  case atStart => exact ⟨0, [], Nat.zero_le _, rfl, rfl, rfl, HD4.out⟩
  case round =>
    rename World => wr
    obtain ⟨b, rs, hb, rfl, hrl, hrm, hd⟩ := hrel
    have HD := Lib.hid hd; have HRM := Lib.hid hrm; have HRL := Lib.hid hrl
    clear hd hrm hrl HD4
    by_cases hbn : b < n
    · have hbi : (b : Int) < (n : Int) := by omega
      have hda := HD.out.below ((Below.refl wr.heap.size wr).alloc (Nat.le_refl _) (.cells (madeCells #[.bool false] n) 4))
      obtain ⟨hcs, hHs⟩ := own_type hda.head (q := H) rfl
      have f1 : (wr.alloc (.cells (madeCells #[.bool false] n) 4)).cell? ⟨H, b, none⟩ = some (.slice none 0 0) := own_cell hda.head (j := b) (by unfold heads; rw [List.getElem?_append_right (by rw [List.length_map, HRL.out]; exact Nat.le_refl _), List.length_map, HRL.out, Nat.sub_self, List.getElem?_replicate_of_lt (by omega)])
      have f2 : (wr.alloc (.cells (madeCells #[.bool false] n) 4)).frozen? ⟨H, b, none⟩ = false := Lib.frozen_of_heap hHs b
      have f3 := lt_heap hHs
      have HG4 := Lib.hid ((HD.out.low.block G hGl).trans HBOX.out)
      have hmb := HMB.out
      clear hda hHs
      go_upto_region 9 with (go_at_call 17; refine (len_any HG4.out).mono ?_; rintro e w5 ⟨rfl, hw⟩; replace hw := hw.symm; subst hw)
      clear hmb f1 f2 f3 HG4
      have HD5 := Lib.hid (HD.out.row (by rw [HRL.out]; exact hbn) (by unfold maxLen; omega))
      rw [HRL.out] at HD5
      obtain ⟨gg, hgg⟩ : ∃ q, q = wr.heap.size := ⟨_, rfl⟩
      have HHZ := Lib.hid hgg
      rw [← hgg] at HD5 ⊢
      clear hgg
      generalize (wr.alloc (.cells (madeCells #[.bool false] n) 4)).setCell ⟨H, b, none⟩ (.slice (some ⟨gg, 0, none⟩) n n) = w6 at *
      clear HD HHZ
      have h1 : w6.cell? ⟨H, b, none⟩ = some (.slice (some ⟨gg, 0, none⟩) n n) := own_cell HD5.out.head (by have := heads_last rs (.slice (some ⟨gg, 0, none⟩) n n) (List.replicate n false) n; rw [HRL.out] at this; exact this)
      have h2 := (HD5.out.head.lt H rfl).2
      go_wp2_with (fail)
      clear h1 h2
      go_loopw [34] (fun av wx => ∃ (a : Nat), a ≤ n ∧ av = .int .i64 a ∧ DmAt w wx T H (.slice ta n tc) (.slice ua n uc) t n (rs ++ [(.slice (some ⟨gg, 0, none⟩) n n, curRow t n b a)])) (fun av _ => n - (intOf av).toNat)
      case atStart => exact ⟨0, Nat.zero_le _, rfl, by rw [curRow_zero]; exact HD5.out⟩
      case round =>
        rename World => wx
        obtain ⟨a, ha, rfl, hdx⟩ := hrel
        have HDX := Lib.hid hdx
        clear hdx HD5
        by_cases han : a < n
        · have hai : (a : Int) < (n : Int) := by omega
          go_upto_region 12 with (fail)
          refine wp_region_by (by kernel_rfl) (xV H T (.slice ta n tc) (.slice ua n uc) t n gg b a) (XI w T H (.slice ta n tc) (.slice ua n uc) t n gg b a rs) (0 : Nat) (fun _ => rfl) (by kernel_rfl) ?h0 ?steps ?done
          case h0 => exact ⟨HDX.out.below ⟨rfl, rfl, rfl, Nat.le_refl _, fun _ _ => rfl⟩⟩
          case done =>
            intro g' w7 hI
            have hd7 := hI.at'
            rw [if_pos rfl] at hd7
            have HD7 := Lib.hid hd7
            clear hI hd7
            simp only [full, xV, Act.put, List.setIfInBounds_toArray, List.set_cons_zero, List.set_cons_succ]
            go_wp2_with (fail)
            go_roundw
            case rel => exact ⟨a + 1, by omega, by go_num, HD7.out⟩
            case measure => simp [intOf]; omega
          case steps =>
            refine (Steps.cons (k' := 1) ?s0 rfl (Steps.cons (k' := 2) ?s1 rfl (Steps.cons (k' := 3) ?s2 rfl (Steps.cons (k' := 4) ?s3 rfl (Steps.cons (k' := 5) ?s4 rfl (Steps.cons (k' := 6) ?s5 rfl (Steps.cons (k' := 7) ?s6 rfl (Steps.cons (k' := 8) ?s7 rfl (Steps.cons (k' := 9) ?s8 rfl (Steps.cons (k' := 10) ?s9 rfl (Steps.cons (k' := 11) ?s10 rfl Steps.nil)))))))))))
            case s0 =>
              intro L g' w' hL hd hcl hI K hK
              simp only [full, xV, Act.put, List.setIfInBounds_toArray, List.set_cons_zero, List.set_cons_succ] at hK ⊢
              have HL := Lib.hid hL; have HD := Lib.hid hd; have HC := Lib.hid hcl; have HJ := Lib.hid hI; have HK := Lib.hid hK
              clear hL hd hcl hI hK
              go_simp
              exact HK.out _ _ g' rfl (fun _ _ => by first | rfl | trivial) (HJ.out.skip (by decide))
            case s1 =>
              intro L g' w' hL hd hcl hI K hK
              simp only [full, xV, Act.put, List.setIfInBounds_toArray, List.set_cons_zero, List.set_cons_succ] at hK ⊢
              have HL := Lib.hid hL; have HD := Lib.hid hd; have HC := Lib.hid hcl; have HJ := Lib.hid hI; have HK := Lib.hid hK
              clear hL hd hcl hI hK
              go_simp
              exact HK.out _ _ g' rfl (fun _ _ => by first | rfl | trivial) (HJ.out.skip (by decide))
            case s2 =>
              intro L g' w' hL hd hcl hI K hK
              simp only [full, xV, Act.put, List.setIfInBounds_toArray, List.set_cons_zero, List.set_cons_succ] at hK ⊢
              have HL := Lib.hid hL; have HD := Lib.hid hd; have HC := Lib.hid hcl; have HJ := Lib.hid hI; have HK := Lib.hid hK
              clear hL hd hcl hI hK
              go_simp
              exact HK.out _ _ g' rfl (fun _ _ => by first | rfl | trivial) (HJ.out.skip (by decide))
            case s3 =>
              intro L g' w' hL hd hcl hI K hK
              simp only [full, xV, Act.put, List.setIfInBounds_toArray, List.set_cons_zero, List.set_cons_succ] at hK ⊢
              have z := own_cell hI.at'.head (j := b) (by have := heads_last rs (.slice (some ⟨gg, 0, none⟩) n n) (curRow t n b (if L 10 then a + 1 else a)) n; rw [HRL.out] at this; exact this)
              have z2 := (hI.at'.head.lt H rfl).2
              have HL := Lib.hid hL; have HD := Lib.hid hd; have HC := Lib.hid hcl; have HJ := Lib.hid hI; have HK := Lib.hid hK
              clear hL hd hcl hI hK
              go_simp
              exact HK.out _ _ g' rfl (fun _ _ => by first | rfl | trivial) (HJ.out.skip (by decide))
            case s4 =>
              intro L g' w' hL hd hcl hI K hK
              simp only [full, xV, Act.put, List.setIfInBounds_toArray, List.set_cons_zero, List.set_cons_succ] at hK ⊢
              have HL := Lib.hid hL; have HD := Lib.hid hd; have HC := Lib.hid hcl; have HJ := Lib.hid hI; have HK := Lib.hid hK
              clear hL hd hcl hI hK
              go_simp
              exact HK.out _ _ g' rfl (fun _ _ => by first | rfl | trivial) (HJ.out.skip (by decide))
            case s5 =>
              intro L g' w' hL hd hcl hI K hK
              simp only [full, xV, Act.put, List.setIfInBounds_toArray, List.set_cons_zero, List.set_cons_succ] at hK ⊢
              obtain ⟨⟨z0, z1⟩, _, z2⟩ := tbox hI.at'.box
              have HL := Lib.hid hL; have HD := Lib.hid hd; have HC := Lib.hid hcl; have HJ := Lib.hid hI; have HK := Lib.hid hK
              clear hL hd hcl hI hK
              go_simp
              exact HK.out _ _ g' rfl (fun _ _ => by first | rfl | trivial) (HJ.out.skip (by decide))
            case s6 =>
              intro L g' w' hL hd hcl hI K hK
              simp only [full, xV, Act.put, List.setIfInBounds_toArray, List.set_cons_zero, List.set_cons_succ] at hK ⊢
              have HL := Lib.hid hL; have HD := Lib.hid hd; have HC := Lib.hid hcl; have HJ := Lib.hid hI; have HK := Lib.hid hK
              clear hL hd hcl hI hK
              go_simp
              exact HK.out _ _ g' rfl (fun _ _ => by first | rfl | trivial) (HJ.out.skip (by decide))
            case s7 =>
              intro L g' w' hL hd hcl hI K hK
              simp only [full, xV, Act.put, List.setIfInBounds_toArray, List.set_cons_zero, List.set_cons_succ] at hK ⊢
              have HL := Lib.hid hL; have HD := Lib.hid hd; have HC := Lib.hid hcl; have HJ := Lib.hid hI; have HK := Lib.hid hK
              clear hL hd hcl hI hK
              go_simp
              exact HK.out _ _ g' rfl (fun _ _ => by first | rfl | trivial) (HJ.out.skip (by decide))
            case s8 =>
              intro L g' w' hL hd hcl hI K hK
              simp only [full, xV, Act.put, List.setIfInBounds_toArray, List.set_cons_zero, List.set_cons_succ] at hK ⊢
              have l10 : L 10 = false := hcl.not 10 8 (by kernel_rfl) hL
              have HOV := Lib.hid (over_own hI.at'.hp hI.at'.hq HTOK.out a b han hbn)
              have HL := Lib.hid hL; have HD := Lib.hid hd; have HC := Lib.hid hcl; have HJ := Lib.hid hI; have HK := Lib.hid hK
              clear hL hd hcl hI hK
              go_simp
              refine HOV.out.mono ?_
              rintro e w8 ⟨rfl, hb8⟩
              exact HK.out _ _ g' rfl (fun _ _ => by first | rfl | trivial) ⟨by have := HJ.out.at'.below hb8; rw [setL_ne (by decide)]; exact this⟩
            case s9 =>
              intro L g' w' hL hd hcl hI K hK
              simp only [full, xV, Act.put, List.setIfInBounds_toArray, List.set_cons_zero, List.set_cons_succ] at hK ⊢
              have HL := Lib.hid hL; have HD := Lib.hid hd; have HC := Lib.hid hcl; have HJ := Lib.hid hI; have HK := Lib.hid hK
              clear hL hd hcl hI hK
              go_simp
              exact HK.out _ _ g' rfl (fun _ _ => by first | rfl | trivial) (HJ.out.skip (by decide))
            case s10 =>
              intro L g' w' hL hd hcl hI K hK
              simp only [full, xV, Act.put, List.setIfInBounds_toArray, List.set_cons_zero, List.set_cons_succ] at hK ⊢
              have hcr := curRow_at t (b := b) han
              have hrow := hI.at'.bag.row b _ _ (show (rs ++ [(Value.slice (some ⟨gg, 0, none⟩) n n, curRow t n b (if L 10 then a + 1 else a))])[b]? = some (Value.slice (some ⟨gg, 0, none⟩) n n, curRow t n b (if L 10 then a + 1 else a)) from by rw [List.getElem?_append_right (by rw [HRL.out]; exact Nat.le_refl _), HRL.out, Nat.sub_self]; rfl)
              rw [curRow_len, if_neg (by rw [hL]; decide)] at hrow
              obtain ⟨z, z2, _, z3⟩ := bool_at hrow hcr
              clear hrow hcr
              have HL := Lib.hid hL; have HD := Lib.hid hd; have HC := Lib.hid hcl; have HJ := Lib.hid hI; have HK := Lib.hid hK
              clear hL hd hcl hI hK
              go_simp
              have hput := HJ.out.at'
              rw [if_neg (by rw [HL.out]; decide)] at hput
              refine HK.out _ _ g' rfl (fun _ _ => by first | rfl | trivial) ⟨?_⟩
              have := hput.put (curRow_len t n b a) han (t.over (a : Int) (b : Int))
              rw [curRow_set t n b a han] at this
              rw [if_pos (by simp [setL])]
              exact this
        · obtain rfl : a = n := by omega
          go_wp2_with (fail)
          refine ⟨⟨b + 1, _, by omega, by go_num, ?_, ?_, HDX.out⟩, by simp [intOf]; omega⟩
          · rw [List.length_append, HRL.out]; rfl
          · rw [List.map_append, HRM.out, List.range_succ, List.map_append, curRow_end]; rfl
    · obtain rfl : b = n := by omega
      go_wp2_with (fail)
      go_ret
      refine ⟨H, rs, rfl, HD.out.low, HRL.out, ?_, HD.out.bag, ?_⟩
      · have := HD.out.head
        unfold heads at this
        rw [HRL.out, Nat.sub_self, List.replicate_zero, List.append_nil] at this
        exact this
      · rw [HRM.out, HRES.out, domsL_rows, ← HT.out, ← HN.out]
end Go.Proofs.Ytipongpgmbhpkaa
