/-
  FlowDoms: the law.
-/
import Derived.Test.YtipongpgmbhpkaaDomBJ
import Derived.Test.YtipongpgmbhpkaaDomCE
namespace Go.Proofs.Ytipongpgmbhpkaa
open Go.ChangeShapes Go.WideShapes Go.ChangeAt Go.RowKit
set_option linter.unusedVariables false

set_option maxHeartbeats 8000000 in
set_option maxRecDepth 100000 in
theorem domslaw_any {w : World} {ways : List (List Int)} {a : Option Addr} {cap : Nat} (hat : ways.length ≤ 12 → WaysAt w.heap.size w a ways) :
    Calls Try.prog 3 #[.slice a ways.length cap] w fun e w' => e = .returned (.bool true) ∧ Below w.heap.size w w' := by
  have HAT := Lib.hid hat
  clear hat
  go_enter Try.func3, Try.ntmps3
  go_wp2_with (fail)
  refine head_any.mono ?_
  rintro e w1 ⟨rfl, hb1⟩
  have HB1 := Lib.hid hb1
  clear hb1
  go_wp2_with (fail)
  refine (few_any (fun h => ?_)).mono ?_
  · intro hne
    obtain ⟨b, off, cap2, ha, ho⟩ := HAT.out h hne
    exact ⟨b, off, cap2, ha, (ho.below HB1.out).mono HB1.out.size⟩
  rintro e w2 ⟨rfl, hw⟩
  replace hw := hw.symm
  subst hw
  cases hf : fewL ways
  · go_wp2_with (fail)
    go_ret
    exact ⟨rfl, HB1.out⟩
  · have HF := Lib.hid hf
    clear hf
    have hf2 := HF.out
    unfold fewL at hf2
    simp only [Bool.and_eq_true, decide_eq_true_eq, List.all_eq_true] at hf2
    obtain ⟨hn12, hr6⟩ := hf2
    have hed : edges ways ≤ 72 := by
      have : ∀ (l : List (List Int)), (∀ r ∈ l, r.length ≤ 6) → edges l ≤ 6 * l.length := by
        intro l
        induction l with
        | nil => intro _; exact Nat.le_refl _
        | cons r l ih =>
          intro h
          have h1 := ih (fun x hx => h x (List.mem_cons_of_mem _ hx))
          have h2 := h r (List.mem_cons_self)
          unfold edges at h1 ⊢
          rw [List.map_cons, List.sum_cons, List.length_cons]
          omega
      have h1 := this ways hr6
      omega
    have HED := Lib.hid hed; have HR6 := Lib.hid hr6
    have HA2 := Lib.hid (HAT.out hn12)
    have HA1 := Lib.hid (show WaysAt w1.heap.size w1 a ways from fun hne => by
      obtain ⟨b, off, cap2, ha, ho⟩ := HA2.out hne
      exact ⟨b, off, cap2, ha, (ho.below HB1.out).mono HB1.out.size⟩)
    obtain ⟨n, hnn⟩ : ∃ n, n = ways.length := ⟨_, rfl⟩
    have HN := Lib.hid hnn
    clear hed hr6 HAT HF
    go_wp2_with (fail)
    refine (lof_any (ways := ways) HA1.out (by omega) (fun r hr => by have := HR6.out r hr; omega)).mono ?_
    rintro e w2 ⟨nm, bv, rfl, hb2, hbl⟩
    have HB2 := Lib.hid (HB1.out.trans (hb2.mono HB1.out.size)); have HBLK := Lib.hid hbl
    clear HB1 HA1 hb2 hbl
    go_wp2_with (fail)
    refine (new_any HBLK.out (by omega) (by have := HED.out; omega)).mono ?_
    rintro e w3 ⟨G, ov, iv, os, js, rfl, hb3, hg⟩
    have HB3 := Lib.hid (HB2.out.trans (hb3.mono HB2.out.size)); have HG := Lib.hid hg
    clear HB2 HBLK hb3 hg
    go_wp2_with (fail)
    have HW3 := Lib.hid (show WaysAt w3.heap.size w3 a ways from fun hne => by
      obtain ⟨b, off, cap2, ha, ho⟩ := HA2.out hne
      exact ⟨b, off, cap2, ha, (ho.below HB3.out).mono HB3.out.size⟩)
    by_cases hz : ways = []
    · subst hz
      refine (doms_none HG.out (by rw [graph_outs]; rfl)).mono ?_
      rintro e w4 ⟨rfl, hw⟩
      replace hw := hw.symm
      subst hw
      go_wp2_with (fail)
      refine (from_any (cap := cap) HW3.out (by decide) (fun r hr => by cases hr) 0 (-1) (by omega) (by omega)).mono ?_
      rintro e w5 ⟨dv, rfl, hb5, hd5⟩
      obtain ⟨da, dc, rfl⟩ := own_form hd5
      have HB5 := Lib.hid (HB3.out.trans (hb5.mono HB3.out.size))
      clear hb5 hd5 HB3 HG HW3
      go_wp2_with (fail)
      go_loopw [26] (fun bv wr => bv = .int .i64 0 ∧ wr = w5) (fun bv _ => 0)
      case atStart => exact ⟨rfl, rfl⟩
      case round =>
        obtain ⟨rfl, rfl⟩ := hrel
        go_wp2_with (fail)
        go_ret
        exact ⟨rfl, HB5.out⟩
    · have hne : (graphL ways).outs ≠ [] := by
        rw [graph_outs]
        intro h
        exact hz (by unfold outsOf at h; exact List.map_eq_nil_iff.1 h)
      have hol : (graphL ways).outs.length = ways.length := by rw [graph_outs]; unfold outsOf; rw [List.length_map]
      have hin : Inside (graphL ways).outs := by
        intro row hr x hx
        rw [hol]
        rw [graph_outs] at hr
        unfold outsOf at hr
        obtain ⟨r, _, rfl⟩ := List.mem_map.1 hr
        unfold inRow at hx
        have := (List.mem_filter.1 hx).2
        simp only [Bool.and_eq_true, decide_eq_true_eq] at this
        exact this
      have hoe : edges (graphL ways).outs ≤ 1000000 := by
        have : ∀ l : List (List Int), edges (l.map (inRow ways.length)) ≤ edges l := by
          intro l
          induction l with
          | nil => exact Nat.le_refl _
          | cons r l ih =>
            unfold edges at ih ⊢
            rw [List.map_cons, List.map_cons, List.map_cons, List.sum_cons, List.sum_cons]
            have := List.length_filter_le (fun tt => decide (0 ≤ tt) && decide (tt < (ways.length : Int))) r
            unfold inRow at ih ⊢
            omega
        have h1 := this ways
        rw [graph_outs]
        unfold outsOf
        have := HED.out
        omega
      refine (doms_any HG.out hne (by omega) hoe).mono ?_
      rintro e w4 ⟨H, rs, rfl, hb4, hrl, hhd, hbag, hds⟩
      have hsq := doms_square (List.length_pos_iff.2 hne) hrl hhd hbag hds
      rw [hol] at hsq hrl ⊢
      rw [graph_outs] at hsq
      have hnp : 0 < ways.length := List.length_pos_iff.2 hz
      obtain ⟨D, hDD⟩ : ∃ D : Nat → Nat → Bool, D = fun (b a : Nat) => (ofL (outsOf ways)).over (a : Int) (b : Int) := ⟨_, rfl⟩
      obtain ⟨A, hAA⟩ : ∃ A : Nat → Bool, A = fun (b : Nat) => (fromL ways ((0 : Nat) : Int) (-1)).getD b false := ⟨_, rfl⟩
      have H1 := Lib.hid (show ∀ b k, b < ways.length → k < ways.length → D b k = (A b && !(fromL ways ((0 : Nat) : Int) (k : Int)).getD b false) from fun b k hb hk => by rw [hDD, hAA]; exact over_from hz hk hb)
      have HB4 := Lib.hid (HB3.out.trans (hb4.mono HB3.out.size))
      have HW4 := Lib.hid (show WaysAt w4.heap.size w4 a ways from fun hne => by
        obtain ⟨b, off, cap2, ha, ho⟩ := HA2.out hne
        exact ⟨b, off, cap2, ha, (ho.below HB4.out).mono HB4.out.size⟩)
      rw [← hDD] at hsq
      have HSQ4 := Lib.hid hsq
      have HAA := Lib.hid hAA
      clear HB3 HG HW3 hb4 hrl hhd hbag hds hne hol hin hoe hsq hDD hAA
      go_wp2_with (fail)
      refine (from_any (cap := cap) HW4.out (by omega) (fun r hr => by have := HR6.out r hr; omega) 0 (-1) (by omega) (by omega)).mono ?_
      rintro e w5 ⟨dv, rfl, hb5, hd5⟩
      have HB5 := Lib.hid (HB4.out.trans (hb5.mono HB4.out.size))
      have HSQ := Lib.hid (HSQ4.out.below hb5)
      obtain ⟨ag, ac, rfl⟩ : ∃ ag ac, dv = .slice (some ⟨ag, 0, none⟩) ways.length ac := by
        rcases own_slice hd5 with ⟨_, h0⟩ | ⟨q, c, h0, _⟩
        · omega
        · exact ⟨q, c, h0⟩
      have hagl := (hd5.lt ag rfl).2
      have HAL := Lib.hid (show ∀ b, b < ways.length → w5.cell? ⟨ag, b, none⟩ = some (.bool (A b)) from fun b hb => by
        refine own_cell hd5 ?_
        obtain ⟨x, hx⟩ : ∃ x, (fromL ways 0 (-1))[b]? = some x := ⟨_, List.getElem?_eq_getElem (by rw [from_len]; exact hb)⟩
        rw [HAA.out, List.getElem?_map, hx]
        show some (Value.bool x) = some (Value.bool ((fromL ways 0 (-1)).getD b false))
        rw [List.getD_eq_getElem?_getD, hx]; rfl)
      have HW5 := Lib.hid (show WaysAt w5.heap.size w5 a ways from fun hne => by
        obtain ⟨b, off, cap2, ha, ho⟩ := HA2.out hne
        exact ⟨b, off, cap2, ha, (ho.below HB5.out).mono HB5.out.size⟩)
      have HFR := Lib.hid (show ∀ (w : World), WaysAt w.heap.size w a ways → ∀ k : Nat, k < n → Calls Try.prog 13 #[.slice a n cap, .int .i64 0, .int .i64 k] w fun e w' => ∃ dv, e = .returned dv ∧ Below w.heap.size w w' ∧ w'.ownsRow w.heap.size 4 1 dv n ((fromL ways ((0 : Nat) : Int) (k : Int)).map Value.bool) from by
        rw [HN.out]
        intro w hw k hk
        exact from_any (cap := cap) hw (by omega) (fun r hr => by have := HR6.out r hr; omega) 0 (k : Int) (by omega) (by omega))
      clear hb5 hd5 HB4 HSQ4 HW4 HAA
      rw [← HN.out] at H1 HSQ HAL hnp hn12 ⊢
      have h0n : (0 : Int) < (n : Int) := by omega
      have hHl := HSQ.out.lt
      clear hnn
      go_wp2_with (fail)
      go_loopw [26] (fun kv wr => ∃ k : Nat, k ≤ n ∧ kv = .int .i64 k ∧ Below w5.heap.size w5 wr) (fun kv _ => n - (intOf kv).toNat)
      case atStart => exact ⟨0, Nat.zero_le _, rfl, Below.refl _ _⟩
      case round =>
        rename World => wr
        obtain ⟨k, hk, rfl, hbr⟩ := hrel
        have HBR := Lib.hid hbr
        by_cases hkn : k < n
        · have hki : (k : Int) < (n : Int) := by omega
          have HW6 := Lib.hid (show WaysAt wr.heap.size wr a ways from fun hne => by
            obtain ⟨b, off, cap2, ha, ho⟩ := HW5.out hne
            exact ⟨b, off, cap2, ha, (ho.below hbr).mono hbr.size⟩)
          clear hbr hHl
          have HCALL := Lib.hid (HFR.out _ HW6.out k hkn)
          go_upto_region 12 with (fail)
          go_upto_region 13 with (go_at_call 13; refine HCALL.out.mono ?_; rintro e w6 ⟨sv, rfl, hb6, hd6⟩; obtain ⟨sa, sc, rfl⟩ := own_form hd6)
          obtain ⟨sg, rfl⟩ : ∃ sg, sa = some ⟨sg, 0, none⟩ := by
            rcases own_slice hd6 with ⟨_, h0⟩ | ⟨q, c, h0, _⟩
            · omega
            · simp only [Value.slice.injEq] at h0
              exact ⟨q, h0.1⟩
          have HB6 := Lib.hid (HBR.out.trans (hb6.mono HBR.out.size))
          have hsgl := (hd6.lt sg rfl).2
          have HSL := Lib.hid (show ∀ b, b < n → w6.cell? ⟨sg, b, none⟩ = some (.bool ((fromL ways ((0 : Nat) : Int) (k : Int)).getD b false)) from fun b hb => by
            refine own_cell hd6 ?_
            obtain ⟨x, hx⟩ : ∃ x, (fromL ways ((0 : Nat) : Int) (k : Int))[b]? = some x := ⟨_, List.getElem?_eq_getElem (by rw [from_len, ← HN.out]; exact hb)⟩
            rw [List.getElem?_map, hx]
            show some (Value.bool x) = some (Value.bool ((fromL ways ((0 : Nat) : Int) (k : Int)).getD b false))
            rw [List.getD_eq_getElem?_getD, hx]; rfl)
          clear hb6 hd6 HBR HW6 HCALL
          go_wp2_with (fail)
          go_loopw [34] (fun bv wt => ∃ b : Nat, b ≤ n ∧ bv = .int .i64 b ∧ Below w6.heap.size w6 wt) (fun bv _ => n - (intOf bv).toNat)
          case atStart => exact ⟨0, Nat.zero_le _, rfl, Below.refl _ _⟩
          case round =>
            rename World => wt
            obtain ⟨b, hb, rfl, hbt⟩ := hrel
            have HBT := Lib.hid (HB6.out.trans (hbt.mono HB6.out.size))
            have HBU := Lib.hid hbt
            by_cases hbn : b < n
            · have hbi : (b : Int) < (n : Int) := by omega
              obtain ⟨g, c, z1, z2, z3⟩ := (HSQ.out.below HBT.out).rows b hbn
              have z4 := z3 k hkn
              have z6 := (HBT.out.cell (p := ⟨ag, b, none⟩) hagl).trans (HAL.out b hbn)
              have z7 := (hbt.cell (p := ⟨sg, b, none⟩) hsgl).trans (HSL.out b hbn)
              have hHl3 := (HSQ.out.below HBT.out).lt
              have hag3 := Nat.lt_of_lt_of_le hagl HBT.out.size
              have hsg3 := Nat.lt_of_lt_of_le hsgl hbt.size
              rw [H1.out b k hbn hkn] at z4
              clear hbt z3
              generalize A b = x at z4 z6
              generalize (fromL ways ((0 : Nat) : Int) (k : Int)).getD b false = y at z4 z7
              go_upto_region 16 with (fail)
              cases x <;> cases y <;> (try simp only [Bool.not_false, Bool.not_true, Bool.and_true, Bool.and_false] at z4) <;> go_quiet (fail)
              all_goals
                have HBS := Lib.hid (below_drewN HBU.out nq)
                generalize wt.drewN nq = wu at *
                clear z1 z2 z4 z6 z7 HBT HBU
                go_wp2_with (fail)
                exact ⟨⟨b + 1, by omega, by go_num, HBS.out⟩, by simp [intOf]; omega⟩
            · obtain rfl : b = n := by omega
              clear hbt
              go_wp2_with (fail)
              exact ⟨⟨k + 1, by omega, by go_num, HBT.out⟩, by simp [intOf]; omega⟩
        · obtain rfl : k = n := by omega
          clear hbr
          go_wp2_with (fail)
          go_ret
          exact ⟨rfl, HB5.out.trans (HBR.out.mono HB5.out.size)⟩
end Go.Proofs.Ytipongpgmbhpkaa
