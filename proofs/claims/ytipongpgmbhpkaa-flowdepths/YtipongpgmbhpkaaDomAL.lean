/-
  FlowOrders.
-/
import Derived.Test.YtipongpgmbhpkaaDomAK
namespace Go.Proofs.Ytipongpgmbhpkaa
open Go.ChangeShapes Go.WideShapes Go.ChangeAt Go.RowKit
set_option linter.unusedVariables false

set_option maxHeartbeats 8000000 in
set_option maxRecDepth 100000 in
theorem orders_any {w : World} {ways : List (List Int)} {a : Option Addr} {cap : Nat} (hat : ways.length ≤ 12 → WaysAt w.heap.size w a ways) :
    Calls Try.prog 5 #[.slice a ways.length cap] w fun e w' => e = .returned (.bool true) ∧ Below w.heap.size w w' := by
  have HAT := Lib.hid hat
  clear hat
  go_enter Try.func5, Try.ntmps5
  go_wp2_with (fail)
  refine head_any.mono ?_
  rintro e w1 ⟨rfl, hb1⟩
  have HB1 := Lib.hid hb1
  clear hb1
  go_wp2_with (fail)
  refine (few_any (fun h => ?_)).mono ?_
  · intro hne
    obtain ⟨b, off, cap2, ha, ho⟩ := HAT.out h hne
    exact ⟨b, off, cap2, ha, (ho.below HB1.out).mono HB1.out.size⟩
  rintro e w2 ⟨rfl, hw⟩
  replace hw := hw.symm
  subst hw
  cases hf : fewL ways
  · go_wp2_with (fail)
    go_ret
    exact ⟨rfl, HB1.out⟩
  · have HF := Lib.hid hf
    clear hf
    have hf2 := HF.out
    unfold fewL at hf2
    simp only [Bool.and_eq_true, decide_eq_true_eq, List.all_eq_true] at hf2
    obtain ⟨hn12, hr6⟩ := hf2
    have hed : edges ways ≤ 72 := by
      have : ∀ (l : List (List Int)), (∀ r ∈ l, r.length ≤ 6) → edges l ≤ 6 * l.length := by
        intro l
        induction l with
        | nil => intro _; exact Nat.le_refl _
        | cons r l ih =>
          intro h
          have h1 := ih (fun x hx => h x (List.mem_cons_of_mem _ hx))
          have h2 := h r (List.mem_cons_self)
          unfold edges at h1 ⊢
          rw [List.map_cons, List.sum_cons, List.length_cons]
          omega
      have h1 := this ways hr6
      omega
    have HED := Lib.hid hed; have HR6 := Lib.hid hr6
    have HA2 := Lib.hid (HAT.out hn12)
    have HA1 := Lib.hid (show WaysAt w1.heap.size w1 a ways from fun hne => by
      obtain ⟨b, off, cap2, ha, ho⟩ := HA2.out hne
      exact ⟨b, off, cap2, ha, (ho.below HB1.out).mono HB1.out.size⟩)
    obtain ⟨n, hnn⟩ : ∃ n, n = ways.length := ⟨_, rfl⟩
    have HN := Lib.hid hnn
    clear hed hr6 HAT HF
    go_wp2_with (fail)
    refine (lof_any (ways := ways) HA1.out (by omega) (fun r hr => by have := HR6.out r hr; omega)).mono ?_
    rintro e w2 ⟨nm, bv, rfl, hb2, hbl⟩
    have HB2 := Lib.hid (HB1.out.trans (hb2.mono HB1.out.size)); have HBLK := Lib.hid hbl
    clear HB1 HA1 hb2 hbl
    go_wp2_with (fail)
    refine (new_any HBLK.out (by omega) (by have := HED.out; omega)).mono ?_
    rintro e w3 ⟨G, ov, iv, os, js, rfl, hb3, hg⟩
    have HB3 := Lib.hid (HB2.out.trans (hb3.mono HB2.out.size)); have HG := Lib.hid hg
    clear HB2 HBLK hb3 hg
    go_wp2_with (fail)
    by_cases hz : ways = []
    · subst hz
      refine (order_none HG.out (by rw [graph_outs]; rfl)).mono ?_
      rintro e w4 ⟨rfl, hw⟩
      replace hw := hw.symm
      subst hw
      go_wp2_with (fail)
      go_ret
      exact ⟨rfl, HB3.out⟩
    · have hne : (graphL ways).outs ≠ [] := by
        rw [graph_outs]
        intro h
        exact hz (by unfold outsOf at h; exact List.map_eq_nil_iff.1 h)
      have hol : (graphL ways).outs.length = ways.length := by rw [graph_outs]; unfold outsOf; rw [List.length_map]
      have hin : Inside (graphL ways).outs := by
        intro row hr x hx
        rw [hol]
        rw [graph_outs] at hr
        unfold outsOf at hr
        obtain ⟨r, _, rfl⟩ := List.mem_map.1 hr
        unfold inRow at hx
        have := (List.mem_filter.1 hx).2
        simp only [Bool.and_eq_true, decide_eq_true_eq] at this
        exact this
      have hoe : edges (graphL ways).outs ≤ 1000000 := by
        have : ∀ l : List (List Int), edges (l.map (inRow ways.length)) ≤ edges l := by
          intro l
          induction l with
          | nil => exact Nat.le_refl _
          | cons r l ih =>
            unfold edges at ih ⊢
            rw [List.map_cons, List.map_cons, List.map_cons, List.sum_cons, List.sum_cons]
            have := List.length_filter_le (fun tt => decide (0 ≤ tt) && decide (tt < (ways.length : Int))) r
            unfold inRow at ih ⊢
            omega
        have h1 := this ways
        rw [graph_outs]
        unfold outsOf
        have := HED.out
        omega
      refine (order_any HG.out hne hin (by omega) hoe).mono ?_
      rintro e w4 ⟨lv, rfl, hb4, hlv⟩
      rw [graph_outs, order_visit hz] at hlv
      have HB4 := Lib.hid (HB3.out.trans (hb4.mono HB3.out.size)); have HLV := Lib.hid (own_mono hlv (Nat.zero_le _))
      have hw4 : w.heap.size ≤ w4.heap.size := HB4.out.size
      clear HB3 HG hb4 hlv hne hol hin hoe
      obtain ⟨b, off, cap2, rfl, ho⟩ := HA2.out hz
      have HO := Lib.hid ((ho.below HB4.out).mono hw4)
      have hnp : 0 < n := by rw [hnn]; exact List.length_pos_iff.2 hz
      have hzi : ¬ ((n : Int) = 0) := by omega
      clear ho
      rw [← hnn] at hn12 ⊢
      clear hnn
      have hmb := run_make_row' (P := Try.prog) 33 4 (.bool false) 1 Try.underlying33 infoBool rfl .i64 .i64 n (by omega) (by omega)
      go_wp2_with (fail)
      clear hmb
      have hsb : (w4.alloc (.cells (madeCells #[.bool false] n) 4)).ownsRow w4.heap.size 4 1 (.slice (some ⟨w4.heap.size, 0, none⟩) n n) n ((List.replicate n false).map Value.bool) := by
        refine ⟨by simp, .inr ⟨w4.heap.size, n, _, rfl, Nat.le_refl _, alloc_at _ _ _ rfl, Nat.le_refl _, by unfold maxLen; omega, ?_, ?_⟩⟩
        · rw [madeCells_one]; simp
        · rw [madeCells_one]; simp
      have hba := (Below.refl w4.heap.size w4).alloc (Nat.le_refl _) (.cells (madeCells #[.bool false] n) 4)
      have HB5 := Lib.hid (HB4.out.trans (hba.mono hw4))
      have HLV5 := Lib.hid (own_below HLV.out hba)
      have HLT := Lib.hid (fun q hq => (HLV.out.lt q hq).2)
      have HO5 := Lib.hid (HO.out.below hba)
      have HVS := Lib.hid (show VsAt w4.heap.size (w4.alloc (.cells (madeCells #[.bool false] n) 4)) w4.heap.size n (.slice none 0 0) (List.replicate n false) [] from ⟨hsb, own_nil _ _ _⟩)
      have hz5 : w4.heap.size < (w4.alloc (.cells (madeCells #[.bool false] n) 4)).heap.size := by simp
      clear hsb hba HB4 HLV HO
      generalize w4.alloc (.cells (madeCells #[.bool false] n) 4) = w5 at *
      have hv := visit_any n (wcap := cap) (b := 0) ⟨HO5.out.low, HO5.out.lt, HO5.out.rows⟩ HN.out.symm (by omega) (fun r hr => by have := HR6.out r hr; omega) HVS.out (by rw [List.getElem?_replicate_of_lt hnp]) (by unfold unseen; simp) (by unfold unseen; simp)
      refine hv.mono ?_
      rintro e w6 ⟨ov', rfl, hb6, hv6⟩
      obtain ⟨k0, hk0⟩ : ∃ k0, n = k0 + 1 := ⟨n - 1, by omega⟩
      obtain ⟨A, hA⟩ : ∃ A, (visitL ways n 0 (List.replicate n false, [])).2 = A ++ [0] := by rw [hk0]; exact visitL_last _ _ _ _
      have hlv5 := own_keep HLV5.out (fun q hq => hb6.block q (HLT.out q hq))
      have hov := hv6.orow
      have hn0 : ((0 : Nat) : Int) = 0 := rfl
      rw [hn0, hA] at hov
      rw [← HN.out, hA] at hlv5
      rw [List.reverse_append, List.reverse_singleton, List.length_append, List.length_reverse, List.length_singleton] at hlv5
      rw [List.length_append, List.length_singleton] at hov
      obtain ⟨m, hm⟩ : ∃ m, m = A.length := ⟨_, rfl⟩
      have hAl : m ≤ 12 := by
        have h1 := (visit_len ways n 0 (List.replicate n false, []) (by omega) (by rw [← HN.out]; omega) (by dsimp only; rw [List.length_replicate]; exact HN.out) (by dsimp only; rw [Int.toNat_zero, List.getElem?_replicate_of_lt hnp]) (by unfold unseen; simp)).2.1
        rw [hA, List.length_append, List.length_singleton] at h1
        unfold unseen at h1
        dsimp only at h1
        rw [List.count_replicate_self] at h1
        simp only [List.length_nil] at h1
        omega
      rw [← hm] at hlv5 hov
      rw [Nat.add_comm 1 m] at hlv5
      obtain ⟨q, hq⟩ : ∃ q, q = m + 1 := ⟨_, rfl⟩
      rw [← hq] at hlv5 hov
      obtain ⟨lg, lc, rfl, _, hlg, hlc⟩ := (own_slice hlv5).resolve_left (fun h => by have := h.2; omega)
      obtain ⟨og, oc, rfl, _, hog, hoc⟩ := (own_slice hov).resolve_left (fun h => by have := h.2; omega)
      have HLV6 := Lib.hid hlv5; have HOV6 := Lib.hid hov; have HM := Lib.hid (show q = A.length + 1 by omega)
      have HB6 := Lib.hid (HB5.out.trans (hb6.mono hw4))
      have g0 := (own_at hlv5 (j := 0) (x := 0) rfl).1
      have hq13 : q ≤ 13 := by omega
      have hq0 : 0 < q := by omega
      clear hlv5 hov hm hq hA hb6 hv6 hk0 HB5 HLV5 HVS HO5 HLT hn0 HED HR6 HA2 HN
      go_wp2_with (fail)
      clear g0
      go_loopw [39] (fun iv wr => ∃ (i : Nat), i ≤ q ∧ iv = .int .i64 i ∧ Below w.heap.size w wr ∧ wr.ownsRow 0 3 1 (.slice (some ⟨lg, 0, none⟩) q lc) q (([0] ++ A.reverse).map iV) ∧ wr.ownsRow w4.heap.size 3 1 (.slice (some ⟨og, 0, none⟩) q oc) q ((A ++ [0]).map iV)) (fun iv _ => q - (intOf iv).toNat)
      case atStart => exact ⟨0, Nat.zero_le _, rfl, HB6.out, HLV6.out, HOV6.out⟩
      case round =>
        rename World => wr
        obtain ⟨i, hi, rfl, hbr, hlr, hor⟩ := hrel
        clear HB6 HLV6 HOV6
        have HB6 := Lib.hid hbr; have HLV6 := Lib.hid hlr; have HOV6 := Lib.hid hor
        have hl1 : lg < wr.heap.size := (hlr.lt lg rfl).2
        have hl2 : og < wr.heap.size := (hor.lt og rfl).2
        clear hbr hlr hor hlg hog
        by_cases hiq : i < q
        · have hii : (i : Int) < (q : Int) := by omega
          obtain ⟨p, hp⟩ : ∃ p : Nat, q = p + 1 := ⟨q - 1, by omega⟩
          obtain ⟨r, hr⟩ : ∃ r : Nat, p = r + i := ⟨p - i, by omega⟩
          have e1 : (q : Int) - 1 = (p : Int) := by omega
          have e2 : (p : Int) - (i : Int) = (r : Int) := by omega
          have hrq : (r : Int) < (q : Int) := by omega
          have hp13 : (p : Int) ≤ 13 := by omega
          obtain ⟨x, hx⟩ : ∃ x, (A ++ [0])[r]? = some x := ⟨_, List.getElem?_eq_getElem (by rw [List.length_append, List.length_singleton, ← HM.out]; omega)⟩
          have hy : ([0] ++ A.reverse)[i]? = some x := by
            have h1 : [0] ++ A.reverse = (A ++ [0]).reverse := by rw [List.reverse_append]; rfl
            rw [h1, List.getElem?_reverse (by rw [List.length_append, List.length_singleton, ← HM.out]; omega), ← hx]
            congr 1
            rw [List.length_append, List.length_singleton, ← HM.out]
            omega
          have c1 := (own_at HLV6.out hy).1
          have c2 := (own_at HOV6.out hx).1
          clear hx hy hp hr
          go_upto_region 14 with (fail)
          go_quiet (fail)
          go_wp2_with (fail)
          have hbd := below_drewN (Below.refl wr.heap.size wr) nq
          exact ⟨⟨i + 1, by omega, by go_num, below_drewN HB6.out nq, own_below HLV6.out hbd, own_below HOV6.out hbd⟩, by simp [intOf]; omega⟩
        · obtain rfl : i = q := by omega
          go_wp2_with (fail)
          go_ret
          exact ⟨rfl, HB6.out⟩
end Go.Proofs.Ytipongpgmbhpkaa
