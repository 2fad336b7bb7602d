/-
  FlowDepths: the law.
-/
import Derived.Test.YtipongpgmbhpkaaDomDE
import Derived.Test.YtipongpgmbhpkaaDomBE
namespace Go.Proofs.Ytipongpgmbhpkaa
open Go.ChangeShapes Go.WideShapes Go.ChangeAt Go.RowKit
set_option linter.unusedVariables false

/-- One block's part in what is in a loop. -/
def lpAt (ways : List (List Int)) (t k s : Nat) : Bool := (gr ways s).contains (t : Int) && (ofL (outsOf ways)).over t s && (k == t || ((fromL ways ((0 : Nat) : Int) (-1)).getD k false && (fromL ways (k : Int) (t : Int)).getD s false))
def lpTo (ways : List (List Int)) (m t k : Nat) : Bool := (List.range m).any (fun s => lpAt ways t k s)
theorem lpTo_all (ways : List (List Int)) (t k : Nat) : lpTo ways ways.length t k = lpB ways t k := rfl
theorem lpTo_step (ways : List (List Int)) (m t k : Nat) : lpTo ways (m + 1) t k = (lpTo ways m t k || lpAt ways t k m) := by
  unfold lpTo
  rw [List.range_succ, List.any_append]; simp
def cntTo (ways : List (List Int)) (m k : Nat) : Nat := (List.range m).countP (fun t => lpB ways t k)
theorem cntTo_step (ways : List (List Int)) (m k : Nat) : cntTo ways (m + 1) k = cntTo ways m k + if lpB ways m k = true then 1 else 0 := by
  unfold cntTo
  rw [List.range_succ, List.countP_append]; simp [List.countP_cons]
theorem cntTo_le (ways : List (List Int)) (m k : Nat) : cntTo ways m k ≤ m := by
  unfold cntTo
  have := List.countP_le_length (p := fun t => lpB ways t k) (l := List.range m)
  rw [List.length_range] at this; exact this
theorem range_set {n j : Nat} {α : Type} (f : Nat → α) (v : α) : ((List.range n).map f).set j v = (List.range n).map (fun k => if k = j then v else f k) := by
  apply List.ext_getElem?
  intro k
  rw [List.getElem?_map]
  by_cases hk : k < n
  · rw [List.getElem?_range hk]
    by_cases e : k = j
    · subst e
      rw [List.getElem?_set_self (by simp; exact hk)]; simp
    · rw [List.getElem?_set_ne (fun h => e h.symm), List.getElem?_map, List.getElem?_range hk]; simp [e]
  · rw [List.getElem?_eq_none (by simp; omega), List.getElem?_eq_none (by simp; omega)]; rfl
theorem range_ext {n : Nat} {α : Type} {f g : Nat → α} (h : ∀ k, k < n → f k = g k) : (List.range n).map f = (List.range n).map g := by
  refine List.map_congr_left fun k hk => h k (List.mem_range.1 hk)
theorem range_get {n j : Nat} {α : Type} (f : Nat → α) (hj : j < n) : ((List.range n).map f)[j]? = some (f j) := by
  rw [List.getElem?_map, List.getElem?_range hj]; rfl
theorem range_const {n : Nat} {α : Type} (v : α) : List.replicate n v = (List.range n).map (fun _ => v) := by
  rw [List.map_const', List.length_range]
theorem has_step {row : List Int} {j : Nat} {x t : Int} (hx : row[j]? = some x) : (row.take (j + 1)).contains t = ((row.take j).contains t || x == t) := by
  obtain ⟨hl, he⟩ := List.getElem?_eq_some_iff.1 hx
  rw [List.take_succ_eq_append_getElem hl, he]
  refine bool_iff ?_
  simp only [List.contains_iff_mem, Bool.or_eq_true, beq_iff_eq, List.mem_append, List.mem_singleton]
  exact or_congr Iff.rfl ⟨Eq.symm, Eq.symm⟩
/-- The row of a top, while a way back to it is gone through. -/
def gIn (ways : List (List Int)) (b top m k : Nat) : Bool := lpTo ways b top k || (k == top || (decide (k < m) && ((fromL ways ((0 : Nat) : Int) (-1)).getD k false && (fromL ways (k : Int) (top : Int)).getD b false)))
theorem gIn_same {ways : List (List Int)} {b top m : Nat} (h : m = top ∨ ((fromL ways ((0 : Nat) : Int) (-1)).getD m false && (fromL ways (m : Int) (top : Int)).getD b false) = false) (k : Nat) : gIn ways b top (m + 1) k = gIn ways b top m k := by
  unfold gIn
  by_cases e : k = m
  · subst e
    rcases h with h | h
    · subst h; simp
    · rw [h]; simp
  · have : decide (k < m + 1) = decide (k < m) := by
      apply decide_eq_decide.2; omega
    rw [this]
theorem gIn_put {ways : List (List Int)} {b top m : Nat} (h : ((fromL ways ((0 : Nat) : Int) (-1)).getD m false && (fromL ways (m : Int) (top : Int)).getD b false) = true) (k : Nat) : gIn ways b top (m + 1) k = if k = m then true else gIn ways b top m k := by
  unfold gIn
  by_cases e : k = m
  · subst e
    rw [h, if_pos rfl]; simp
  · have : decide (k < m + 1) = decide (k < m) := by
      apply decide_eq_decide.2; omega
    rw [this, if_neg e]
theorem gIn_zero (ways : List (List Int)) (b top k : Nat) : gIn ways b top 0 k = if k = top then true else lpTo ways b top k := by
  unfold gIn
  by_cases e : k = top
  · subst e; simp
  · simp [e]
theorem gIn_end {ways : List (List Int)} {b top n k : Nat} (hk : k < n) (h : lpAt ways top k b = (k == top || ((fromL ways ((0 : Nat) : Int) (-1)).getD k false && (fromL ways (k : Int) (top : Int)).getD b false))) : gIn ways b top n k = lpTo ways (b + 1) top k := by
  unfold gIn
  rw [lpTo_step, h]; simp [hk]
/-- The numbers wanted, while one top's row is gone through. -/
def hIn (ways : List (List Int)) (top m k : Nat) : Int := (cntTo ways top k : Int) + if decide (k < m) && lpB ways top k then 1 else 0
theorem hIn_zero (ways : List (List Int)) (top k : Nat) : hIn ways top 0 k = (cntTo ways top k : Int) := by unfold hIn; simp
theorem hIn_same {ways : List (List Int)} {top m : Nat} (h : lpB ways top m = false) (k : Nat) : hIn ways top (m + 1) k = hIn ways top m k := by
  unfold hIn
  by_cases e : k = m
  · subst e; rw [h]; simp
  · have : decide (k < m + 1) = decide (k < m) := by
      apply decide_eq_decide.2; omega
    rw [this]
theorem hIn_put {ways : List (List Int)} {top m : Nat} (h : lpB ways top m = true) (k : Nat) : hIn ways top (m + 1) k = if k = m then hIn ways top m m + 1 else hIn ways top m k := by
  unfold hIn
  by_cases e : k = m
  · subst e; rw [h, if_pos rfl]; simp
  · have : decide (k < m + 1) = decide (k < m) := by
      apply decide_eq_decide.2; omega
    rw [this, if_neg e]
theorem hIn_end {ways : List (List Int)} {top n k : Nat} (hk : k < n) : hIn ways top n k = (cntTo ways (top + 1) k : Int) := by
  unfold hIn
  rw [cntTo_step]
  by_cases c : lpB ways top k = true
  · simp [hk, c]
  · simp [c]
theorem hIn_le (ways : List (List Int)) (top m k : Nat) : 0 ≤ hIn ways top m k ∧ hIn ways top m k ≤ (top : Int) + 1 := by
  unfold hIn
  have := cntTo_le ways top k
  split <;> omega
theorem from_cell {B : Nat} {w : World} {g n c : Nat} {ways : List (List Int)} {s t : Int} (h : w.ownsRow B 4 1 (.slice (some ⟨g, 0, none⟩) n c) n ((fromL ways s t).map Value.bool)) {b : Nat} (hb : b < n) : w.cell? ⟨g, b, none⟩ = some (.bool ((fromL ways s t).getD b false)) := by
  have hl := own_len h
  rw [List.length_map] at hl
  refine own_cell h ?_
  rw [List.getElem?_map, List.getD_eq_getElem?_getD, List.getElem?_eq_getElem (by omega)]
  rfl
theorem FrAt.keep {w wr wx : World} {g n : Nat} {out : List Bool} (h : FrAt w wr g n out) (hb : Below wr.heap.size wr wx) : FrAt w wx g n out := ⟨h.low.trans (hb.mono h.low.size), own_below h.row hb⟩
theorem depths_none {w : World} {B0 G : Nat} {ov iv : Value} {os js : List Value} {g : Gr} (hg : GrAt B0 w G ov iv os js g) (hne : g.outs = []) :
    Calls Try.prog 14 #[.pointer (some ⟨G, 0, none⟩)] w fun e w' => e = .returned (.slice none 0 0) ∧ w' = w := by
  have hol : os.length = 0 := by rw [hg.lo, hne]; rfl
  obtain ⟨oa, oc, ho⟩ : ∃ a c, ov = .slice a 0 c := by
    have := own_form hg.ho
    rw [hol] at this
    exact this
  have hbox := hg.box
  rw [ho] at hbox
  have HBOX := Lib.hid hbox
  clear hol ho hbox hg
  go_enter Try.func14, Try.ntmps14
  go_wp2_with (fail)
  refine (len_any HBOX.out).mono ?_
  rintro e w5 ⟨rfl, hw⟩
  replace hw := hw.symm
  subst hw
  go_wp2_with (fail)
  go_ret
  exact ⟨rfl, rfl⟩
theorem depths_ways {w : World} {B0 G : Nat} {ov iv : Value} {os js : List Value} {ways : List (List Int)} (hg : GrAt B0 w G ov iv os js (graphL ways)) (hz : ways ≠ []) (hn : ways.length ≤ 12) (he : edges ways ≤ 1000) :
    Calls Try.prog 14 #[.pointer (some ⟨G, 0, none⟩)] w fun e w' => ∃ dv, e = .returned dv ∧ Below w.heap.size w w' ∧ w'.ownsRow w.heap.size 3 1 dv ways.length ((List.range ways.length).map (fun b => Value.int .i64 (cntL ways b))) := by
  have hok := graph_ok ways
  have hol : (graphL ways).outs.length = ways.length := hok.ol
  have hne : (graphL ways).outs ≠ [] := by rw [graph_outs]; exact outs_ne hz
  have hin : Inside (graphL ways).outs := by
    intro row hr x hx
    rw [hol]
    rw [graph_outs] at hr
    unfold outsOf at hr
    obtain ⟨r, _, rfl⟩ := List.mem_map.1 hr
    unfold inRow at hx
    have := (List.mem_filter.1 hx).2
    simp only [Bool.and_eq_true, decide_eq_true_eq] at this
    exact this
  obtain ⟨hil, hI⟩ := graph_ins ways
  have h1 := edges_le _ hok.om
  have h2 := edges_le _ hok.jm
  have h3 : ways.length * edges ways ≤ 12 * 1000 := Nat.mul_le_mul hn he
  rw [hol] at h1
  rw [hil] at h2
  obtain ⟨c1, c2⟩ := depths_cnt hz (by rw [hol]; omega)
  have := depths_any hg hne hin (by omega) (by omega) (by rw [hil, hol]) (fun r hr x hx => by
    obtain ⟨i, hi⟩ := List.mem_iff_getElem?.1 hr
    have hil2 := (List.getElem?_eq_some_iff.1 hi).1
    have hg : gr (graphL ways).ins (i : Int) = r := by unfold gr; rw [Int.toNat_natCast, List.getD_eq_getElem?_getD, hi]; rfl
    obtain ⟨p, rfl, hp, _⟩ := (hI i (by omega) x).1 (by rw [hg]; exact hx)
    rw [hol]; omega) (fun r hr => by have := hok.jm r hr; omega) (low_of_walk hne) (tr_ok hne (by omega)) c1
  rw [c2, hol, List.map_map] at this
  exact this
set_option maxHeartbeats 8000000 in
set_option maxRecDepth 100000 in
theorem depthslaw_any {w : World} {ways : List (List Int)} {a : Option Addr} {cap : Nat} (hat : ways.length ≤ 12 → WaysAt w.heap.size w a ways) :
    Calls Try.prog 4 #[.slice a ways.length cap] w fun e w' => e = .returned (.bool true) ∧ Below w.heap.size w w' := by
  have HAT := Lib.hid hat
  clear hat
  go_enter Try.func4, Try.ntmps4
  go_wp2_with (fail)
  refine head_any.mono ?_
  rintro e w1 ⟨rfl, hb1⟩
  have HB1 := Lib.hid hb1
  clear hb1
  go_wp2_with (fail)
  refine (few_any (fun h => ?_)).mono ?_
  · intro hne
    obtain ⟨b, off, cap2, ha, ho⟩ := HAT.out h hne
    exact ⟨b, off, cap2, ha, (ho.below HB1.out).mono HB1.out.size⟩
  rintro e w2 ⟨rfl, hw⟩
  replace hw := hw.symm
  subst hw
  cases hf : fewL ways
  · go_wp2_with (fail)
    go_ret
    exact ⟨rfl, HB1.out⟩
  · have HF := Lib.hid hf
    clear hf
    have hf2 := HF.out
    unfold fewL at hf2
    simp only [Bool.and_eq_true, decide_eq_true_eq, List.all_eq_true] at hf2
    obtain ⟨hn12, hr6⟩ := hf2
    have hed : edges ways ≤ 72 := by
      have : ∀ (l : List (List Int)), (∀ r ∈ l, r.length ≤ 6) → edges l ≤ 6 * l.length := by
        intro l
        induction l with
        | nil => intro _; exact Nat.le_refl _
        | cons r l ih =>
          intro h
          have h1 := ih (fun x hx => h x (List.mem_cons_of_mem _ hx))
          have h2 := h r (List.mem_cons_self)
          unfold edges at h1 ⊢
          rw [List.map_cons, List.sum_cons, List.length_cons]
          omega
      have h1 := this ways hr6
      omega
    have HED := Lib.hid hed; have HR6 := Lib.hid hr6
    have HA2 := Lib.hid (HAT.out hn12)
    have HA1 := Lib.hid (show WaysAt w1.heap.size w1 a ways from fun hne => by
      obtain ⟨b, off, cap2, ha, ho⟩ := HA2.out hne
      exact ⟨b, off, cap2, ha, (ho.below HB1.out).mono HB1.out.size⟩)
    obtain ⟨n, hnn⟩ : ∃ n, n = ways.length := ⟨_, rfl⟩
    have HN := Lib.hid hnn
    clear hed hr6 HAT HF
    go_wp2_with (fail)
    refine (lof_any (ways := ways) HA1.out (by omega) (fun r hr => by have := HR6.out r hr; omega)).mono ?_
    rintro e w2 ⟨nm, bv, rfl, hb2, hbl⟩
    have HB2 := Lib.hid (HB1.out.trans (hb2.mono HB1.out.size)); have HBLK := Lib.hid hbl
    clear HB1 HA1 hb2 hbl
    go_wp2_with (fail)
    refine (new_any HBLK.out (by omega) (by have := HED.out; omega)).mono ?_
    rintro e w3 ⟨G, ov, iv, os, js, rfl, hb3, hg⟩
    have HB3 := Lib.hid (HB2.out.trans (hb3.mono HB2.out.size)); have HG := Lib.hid hg
    clear HB2 HBLK hb3 hg
    go_wp2_with (fail)
    have HW3 := Lib.hid (show WaysAt w3.heap.size w3 a ways from fun hne => by
      obtain ⟨b, off, cap2, ha, ho⟩ := HA2.out hne
      exact ⟨b, off, cap2, ha, (ho.below HB3.out).mono HB3.out.size⟩)
    by_cases hz : ways = []
    · subst hz
      refine (depths_none HG.out (by rw [graph_outs]; rfl)).mono ?_
      rintro e w4 ⟨rfl, hw⟩
      replace hw := hw.symm
      subst hw
      go_wp2_with (fail)
      refine (from_any (cap := cap) HW3.out (by decide) (fun r hr => by cases hr) 0 (-1) (by omega) (by omega)).mono ?_
      rintro e w5 ⟨dv, rfl, hb5, hd5⟩
      obtain ⟨da, dc, rfl⟩ := own_form hd5
      have HB5 := Lib.hid (HB3.out.trans (hb5.mono HB3.out.size))
      clear hb5 hd5 HB3 HG HW3
      have hmk := run_make_row' (P := Try.prog) 35 3 (.int .i64 0) 8 Try.underlying35 info3 rfl .i64 .i64 0 (by omega) (by omega)
      rw [show ((0 : Nat) : Int) = 0 from rfl] at hmk
      go_wp2_with (fail)
      clear hmk
      have hba := HB5.out.alloc HB5.out.size (.cells (madeCells #[.int .i64 0] 0) 3)
      have HB6 := Lib.hid hba
      clear hba HB5
      generalize w5.alloc (.cells (madeCells #[.int .i64 0] 0) 3) = w6 at *
      go_loopw [37] (fun bv wr => bv = .int .i64 0 ∧ wr = w6) (fun bv _ => 0)
      case atStart => exact ⟨rfl, rfl⟩
      case round =>
        obtain ⟨rfl, rfl⟩ := hrel
        go_wp2_with (fail)
        go_loopw [130] (fun bv wr => bv = .int .i64 0 ∧ Below w.heap.size w wr) (fun bv _ => 0)
        case atStart => exact ⟨rfl, HB6.out⟩
        case round =>
          obtain ⟨rfl, hbz⟩ := hrel
          go_wp2_with (fail)
          go_ret
          exact ⟨rfl, hbz⟩
    · refine (depths_ways HG.out hz (by omega) (by have := HED.out; omega)).mono ?_
      rintro e w4 ⟨gv, rfl, hb4, hgv⟩
      have hnp : 0 < ways.length := List.length_pos_iff.2 hz
      obtain ⟨wb, woff, cap2, rfl, hat⟩ := HA2.out hz
      have HAT := Lib.hid hat
      have HFR := Lib.hid (show ∀ (x : World), Below w.heap.size w x → ∀ s : Nat, s < n → ∀ t : Int, -1 ≤ t → t < 100 → Calls Try.prog 13 #[.slice (some ⟨wb, woff, none⟩) n cap, .int .i64 s, .int .i64 t] x fun e w' => ∃ dv, e = .returned dv ∧ Below x.heap.size x w' ∧ w'.ownsRow x.heap.size 4 1 dv n ((fromL ways (s : Int) t).map Value.bool) from by
        rw [HN.out]
        intro x hx s hs t ht ht2
        exact from_any (cap := cap) (fun _ => ⟨wb, woff, cap2, rfl, (HAT.out.below hx).mono hx.size⟩) (by omega) (fun r hr => by have := HR6.out r hr; omega) s t (by omega) (by omega))
      have HB4 := Lib.hid (HB3.out.trans (hb4.mono HB3.out.size))
      have HW4 := Lib.hid (show w.heap.size ≤ w4.heap.size from HB4.out.size)
      rw [← HN.out] at hgv hn12 hnp ⊢
      clear hnn
      obtain ⟨gg, gc, rfl⟩ : ∃ gg gc, gv = .slice (some ⟨gg, 0, none⟩) n gc := by
        rcases own_slice hgv with ⟨_, h0⟩ | ⟨q, c, h0, _⟩
        · omega
        · exact ⟨q, c, h0⟩
      have HGV := Lib.hid hgv
      clear hb4 hgv HB3 HG HW3 hat HA2
      have HC0 := Lib.hid (HFR.out _ HB4.out 0 hnp (-1) (by omega) (by omega))
      go_wp2_with (fail)
      refine HC0.out.mono ?_
      rintro e w5 ⟨av, rfl, hb5, hd5⟩
      obtain ⟨ag, ac, rfl⟩ : ∃ gg gc, av = .slice (some ⟨gg, 0, none⟩) n gc := by
        rcases own_slice hd5 with ⟨_, h0⟩ | ⟨q, c, h0, _⟩
        · omega
        · exact ⟨q, c, h0⟩
      have HB5 := Lib.hid (HB4.out.trans (hb5.mono HB4.out.size))
      have HGV5 := Lib.hid (own_below HGV.out hb5)
      have hagl := (hd5.lt ag rfl).2
      have HALL := Lib.hid (show ∀ x, Below w5.heap.size w5 x → ag < x.heap.size ∧ ∀ b : Nat, b < n → x.cell? ⟨ag, b, none⟩ = some (.bool ((fromL ways ((0 : Nat) : Int) (-1)).getD b false)) from fun x hx => ⟨Nat.lt_of_lt_of_le hagl hx.size, fun b hb => from_cell (own_below hd5 hx) hb⟩)
      clear hagl
      clear hb5 hd5 HC0 HGV HB4
      have hmk := run_make_row' (P := Try.prog) 35 3 (.int .i64 0) 8 Try.underlying35 info3 rfl .i64 .i64 n (by omega) (by omega)
      go_wp2_with (fail)
      clear hmk
      have hba := (Below.refl w5.heap.size w5).alloc (Nat.le_refl _) (.cells (madeCells #[.int .i64 0] n) 3)
      have hom := own_made (B := w5.heap.size) (n := n) (w := w5.alloc (.cells (madeCells #[.int .i64 0] n) 3)) (alloc_at _ _ _ rfl) (Nat.le_refl _) (by unfold maxLen; omega)
      rw [List.length_replicate, range_const] at hom
      have HB6 := Lib.hid hba
      have HOM := Lib.hid hom
      clear hba hom
      generalize w5.alloc (.cells (madeCells #[.int .i64 0] n) 3) = w6 at *
      obtain ⟨wg, hwg⟩ : ∃ g, g = w5.heap.size := ⟨_, rfl⟩
      have HWG := Lib.hid hwg
      rw [← hwg] at HOM ⊢
      clear hwg
      go_loopw [37] (fun tv wr => ∃ top : Nat, top ≤ n ∧ tv = .int .i64 top ∧ Below w5.heap.size w5 wr ∧ wr.ownsRow wg 3 1 (.slice (some ⟨wg, 0, none⟩) n n) n (((List.range n).map (fun k => (cntTo ways top k : Int))).map iV)) (fun tv _ => n - (intOf tv).toNat)
      case atStart => exact ⟨0, Nat.zero_le _, rfl, HB6.out, HOM.out⟩
      case round =>
        rename World => wr
        obtain ⟨top, htop, rfl, hbr, hwr⟩ := hrel
        have HBR := Lib.hid hbr; have HWR := Lib.hid hwr
        clear HB6 HOM hbr hwr
        by_cases htn : top < n
        · have hti : (top : Int) < (n : Int) := by omega
          have hmb := run_make_row' (P := Try.prog) 33 4 (.bool false) 1 Try.underlying33 infoBool rfl .i64 .i64 n (by omega) (by omega)
          go_wp2_with (fail)
          clear hmb
          have hbm := boolmade (w := wr) (n := n) (by unfold maxLen; omega)
          have hba := (Below.refl wr.heap.size wr).alloc (Nat.le_refl _) (.cells (madeCells #[.bool false] n) 4)
          obtain ⟨ig, hig⟩ : ∃ g, g = wr.heap.size := ⟨_, rfl⟩
          rw [← hig] at hbm ⊢
          rw [range_const] at hbm
          have HF0 := Lib.hid (show FrAt wr (wr.alloc (.cells (madeCells #[.bool false] n) 4)) ig n ((List.range n).map (fun k => lpTo ways 0 top k)) from ⟨hba, by rw [← hig]; exact hbm⟩)
          have hwig : wg < ig := by have := (HWR.out.lt wg rfl).2; omega
          have HIG := Lib.hid hig
          clear hbm hba hig
          generalize wr.alloc (.cells (madeCells #[.bool false] n) 4) = wi at *
          go_loopw [45] (fun bv wx => ∃ b : Nat, b ≤ n ∧ bv = .int .i64 b ∧ FrAt wr wx ig n ((List.range n).map (fun k => lpTo ways b top k))) (fun bv _ => n - (intOf bv).toNat)
          case atStart => exact ⟨0, Nat.zero_le _, rfl, HF0.out⟩
          case round =>
            rename World => wx
            obtain ⟨b, hb, rfl, hfx⟩ := hrel
            have HFX := Lib.hid hfx
            clear HF0 hfx
            by_cases hbn : b < n
            · have hbi : (b : Int) < (n : Int) := by omega
              obtain ⟨row, hrow⟩ : ∃ r, ways[b]? = some r := ⟨_, List.getElem?_eq_getElem (by rw [← HN.out]; exact hbn)⟩
              have hgr : gr ways b = row := by unfold gr; rw [Int.toNat_natCast, List.getD_eq_getElem?_getD, hrow]; rfl
              have HGR := Lib.hid hgr
              have hrl : row.length ≤ 6 := HR6.out row (List.mem_of_getElem? hrow)
              have hbx := HB5.out.trans ((HBR.out.trans (HFX.out.low.mono HBR.out.size)).mono HB5.out.size)
              have HBX := Lib.hid hbx
              have hatx := HAT.out.below hbx
              obtain ⟨rv, hc, hrv⟩ := hatx.rows b row hrow
              have hwl := hatx.lt
              obtain ⟨ra, rc, rfl⟩ := hrv.slice
              have HRV := Lib.hid hrv
              clear hgr hrow hbx hatx hrv
              go_upto_region 17 with (fail)
              clear hc
              go_wp2_with (fail)
              go_loopw [10, 52] (fun kv jv wy => ∃ j : Nat, j ≤ row.length ∧ kv = .bool ((row.take j).contains (top : Int)) ∧ jv = .int .i64 j ∧ wy = wx) (fun _ jv _ => row.length - (intOf jv).toNat)
              case atStart => exact ⟨0, Nat.zero_le _, (by simp), rfl, rfl⟩
              case round =>
                rename World => wy
                obtain ⟨j, hj, rfl, rfl, hwy⟩ := hrel
                subst wy
                by_cases hjl : j < row.length
                · have hji : (j : Int) < (row.length : Int) := by omega
                  obtain ⟨x, hx⟩ : ∃ x, row[j]? = some x := ⟨_, List.getElem?_eq_getElem hjl⟩
                  obtain ⟨rb, ro, rc2, hrv2, hrb, hrbl, hrc⟩ := HRV.out.get (by omega)
                  have hrv1 : ra = some ⟨rb, ro, none⟩ ∧ rc = rc2 := by simp only [Value.slice.injEq] at hrv2; exact ⟨hrv2.1, hrv2.2.2⟩
                  obtain ⟨rfl, rfl⟩ := hrv1
                  have r1 := hrc j x hx
                  have HST := Lib.hid (has_step (t := (top : Int)) hx)
                  clear hrc hrv2 hx
                  generalize (row.take j).contains (top : Int) = bk at HST ⊢
                  cases bk
                  · by_cases hxt : x = (top : Int)
                    · have q1 : (x == (top : Int)) = true := by simp; exact hxt
                      go_wp2_with (fail)
                      exact ⟨⟨j + 1, by omega, by rw [HST.out, q1]; rfl, by go_num, trivial⟩, by simp [intOf]; omega⟩
                    · have q1 : (x == (top : Int)) = false := by simp; exact hxt
                      go_wp2_with (fail)
                      exact ⟨⟨j + 1, by omega, by rw [HST.out, q1]; rfl, by go_num, trivial⟩, by simp [intOf]; omega⟩
                  · go_wp2_with (fail)
                    exact ⟨⟨j + 1, by omega, by rw [HST.out, Bool.true_or], by go_num, trivial⟩, by simp [intOf]; omega⟩
                · obtain rfl : j = row.length := by omega
                  rw [List.take_length]
                  have HBK := Lib.hid (show row.contains (top : Int) = (gr ways b).contains (top : Int) from by rw [HGR.out])
                  generalize row.contains (top : Int) = bk at HBK ⊢
                  have hax := HALL.out wx (HBR.out.trans (HFX.out.low.mono HBR.out.size))
                  have hagx := hax.1
                  have z1 := hax.2 b hbn
                  have HLP := Lib.hid (show ∀ k, lpAt ways top k b = (bk && ((fromL ways ((0 : Nat) : Int) (-1)).getD b false && !(fromL ways ((0 : Nat) : Int) (top : Int)).getD b false) && (k == top || ((fromL ways ((0 : Nat) : Int) (-1)).getD k false && (fromL ways (k : Int) (top : Int)).getD b false))) from fun k => by
                    unfold lpAt
                    rw [← HBK.out, over_from hz (by rw [← HN.out]; exact htn) (by rw [← HN.out]; exact hbn)])
                  have HNX := Lib.hid (show (∀ k, lpAt ways top k b = false) → (List.range n).map (fun k => lpTo ways (b + 1) top k) = (List.range n).map (fun k => lpTo ways b top k) from fun hc => range_ext (fun k _ => by rw [lpTo_step, hc k, Bool.or_false]))
                  clear hax HRV HBK HGR hrl hwl
                  cases bk
                  · clear z1
                    go_wp2_with (fail)
                    exact ⟨⟨b + 1, by omega, by go_num, by rw [HNX.out (fun k => by rw [HLP.out]; rfl)]; exact HFX.out⟩, by simp [intOf]; omega⟩
                  · obtain ⟨ab, hab⟩ : ∃ x, x = (fromL ways ((0 : Nat) : Int) (-1)).getD b false := ⟨_, rfl⟩
                    rw [← hab] at z1 HLP
                    clear hab
                    cases ab
                    · go_wp2_with (fail)
                      exact ⟨⟨b + 1, by omega, by go_num, by rw [HNX.out (fun k => by rw [HLP.out]; rfl)]; exact HFX.out⟩, by simp [intOf]; omega⟩
                    · have HC0 := Lib.hid (HFR.out wx HBX.out 0 hnp (top : Int) (by omega) (by omega))
                      cases hf0 : (fromL ways ((0 : Nat) : Int) (top : Int)).getD b false
                      · rw [hf0] at HLP
                        go_upto_region 24 with (go_at_call 13; refine HC0.out.mono ?_; rintro e wy ⟨sv, rfl, hb6, hd6⟩; obtain ⟨sg, sc, rfl⟩ : ∃ gg gc, sv = .slice (some ⟨gg, 0, none⟩) n gc := (own_slice hd6).elim (fun h => absurd h.2 (by omega)) (fun ⟨q, c, h0, _⟩ => ⟨q, c, h0⟩); have z2 := (from_cell hd6 hbn).trans (by rw [hf0]); have z3 := (hd6.lt sg rfl).2)
                        have HFY := Lib.hid (HFX.out.keep hb6)
                        clear z1 z2 z3 hb6 hd6 HFX HC0 hagx
                        obtain ⟨t1, t2, t3, t4⟩ := bool_at HFY.out.row (range_get _ htn)
                        go_upto_region 25 with (fail)
                        have hput := HFY.out.put htn
                        rw [range_set] at hput
                        have HG0 := Lib.hid (show FrAt wr (wy.setCell ⟨ig, top, none⟩ (.bool true)) ig n ((List.range n).map (fun k => gIn ways b top 0 k)) from by
                          have e0 : (List.range n).map (fun k => gIn ways b top 0 k) = (List.range n).map (fun k => if k = top then true else lpTo ways b top k) := range_ext (fun k _ => gIn_zero ways b top k)
                          rw [e0]; exact hput)
                        clear hput t1 t2 t3 t4 HFY
                        generalize wy.setCell ⟨ig, top, none⟩ (.bool true) = wq at *
                        go_wp2_with (fail)
                        go_loopw [85] (fun mv wz => ∃ m : Nat, m ≤ n ∧ mv = .int .i64 m ∧ FrAt wr wz ig n ((List.range n).map (fun k => gIn ways b top m k))) (fun mv _ => n - (intOf mv).toNat)
                        case atStart => exact ⟨0, Nat.zero_le _, rfl, HG0.out⟩
                        case round =>
                          rename World => wz
                          obtain ⟨m, hm, rfl, hfz⟩ := hrel
                          have HFZ := Lib.hid hfz
                          clear HG0 hfz
                          by_cases hmn : m < n
                          · have hmi : (m : Int) < (n : Int) := by omega
                            by_cases hmt : m = top
                            · have HS := Lib.hid (range_ext (n := n) (fun k _ => gIn_same (ways := ways) (b := b) (.inl hmt) k))
                              subst hmt
                              have q3 : decide (m = m) = true := by simp
                              go_wp2_with (fail)
                              exact ⟨⟨m + 1, by omega, by go_num, by rw [HS.out]; exact HFZ.out⟩, by simp [intOf]; omega⟩
                            · have q1 : ¬ ((m : Int) = (top : Int)) := by omega
                              have q2 : ((m : Int) == (top : Int)) = false := by simp; omega
                              have hbz := HBR.out.trans (HFZ.out.low.mono HBR.out.size)
                              have HBZ := Lib.hid hbz
                              have hax := HALL.out wz hbz
                              have hagx := hax.1
                              have z1 := hax.2 m hmn
                              clear hax hbz
                              cases ha0 : (fromL ways ((0 : Nat) : Int) (-1)).getD m false
                              · rw [ha0] at z1
                                have HS := Lib.hid (range_ext (n := n) (fun k _ => gIn_same (ways := ways) (b := b) (top := top) (m := m) (.inr (by rw [ha0]; rfl)) k))
                                go_wp2_with (fail)
                                exact ⟨⟨m + 1, by omega, by go_num, by rw [HS.out]; exact HFZ.out⟩, by simp [intOf]; omega⟩
                              · rw [ha0] at z1
                                have HC0 := Lib.hid (HFR.out wz (HB5.out.trans (HBZ.out.mono HB5.out.size)) m hmn (top : Int) (by omega) (by omega))
                                cases hf1 : (fromL ways (m : Int) (top : Int)).getD b false
                                · have HS := Lib.hid (range_ext (n := n) (fun k _ => gIn_same (ways := ways) (b := b) (top := top) (m := m) (.inr (by rw [ha0, hf1]; rfl)) k))
                                  go_wp2_with (go_at_call 13; refine HC0.out.mono ?_; rintro e wy ⟨sv, rfl, hb6, hd6⟩; obtain ⟨sg, sc, rfl⟩ : ∃ gg gc, sv = .slice (some ⟨gg, 0, none⟩) n gc := (own_slice hd6).elim (fun h => absurd h.2 (by omega)) (fun ⟨q, c, h0, _⟩ => ⟨q, c, h0⟩); have z2 := (from_cell hd6 hbn).trans (by rw [hf1]); have z3 := (hd6.lt sg rfl).2)
                                  exact ⟨⟨m + 1, by omega, by go_num, by rw [HS.out]; exact HFZ.out.keep hb6⟩, by simp [intOf]; omega⟩
                                · have HS := Lib.hid (range_ext (n := n) (fun k _ => gIn_put (ways := ways) (b := b) (top := top) (m := m) (by rw [ha0, hf1]; rfl) k))
                                  go_upto_region 29 with (go_at_call 13; refine HC0.out.mono ?_; rintro e wy ⟨sv, rfl, hb6, hd6⟩; obtain ⟨sg, sc, rfl⟩ : ∃ gg gc, sv = .slice (some ⟨gg, 0, none⟩) n gc := (own_slice hd6).elim (fun h => absurd h.2 (by omega)) (fun ⟨q, c, h0, _⟩ => ⟨q, c, h0⟩); have z2 := (from_cell hd6 hbn).trans (by rw [hf1]); have z3 := (hd6.lt sg rfl).2)
                                  have HFY := Lib.hid (HFZ.out.keep hb6)
                                  clear z1 z2 z3 hb6 hd6 HFZ HC0 hagx
                                  obtain ⟨t1, t2, t3, t4⟩ := bool_at HFY.out.row (range_get _ hmn)
                                  go_wp2_with (fail)
                                  have hput := HFY.out.put hmn
                                  rw [range_set, ← HS.out] at hput
                                  exact ⟨⟨m + 1, by omega, by go_num, hput⟩, by simp [intOf]; omega⟩
                          · obtain rfl : m = n := by omega
                            have HS := Lib.hid (range_ext (n := m) (fun k hk => gIn_end (ways := ways) (b := b) (top := top) hk (by rw [HLP.out]; simp)))
                            go_wp2_with (fail)
                            exact ⟨⟨b + 1, by omega, by go_num, by rw [← HS.out]; exact HFZ.out⟩, by simp [intOf]; omega⟩
                      · rw [hf0] at HLP
                        go_wp2_with (go_at_call 13; refine HC0.out.mono ?_; rintro e wy ⟨sv, rfl, hb6, hd6⟩; obtain ⟨sg, sc, rfl⟩ : ∃ gg gc, sv = .slice (some ⟨gg, 0, none⟩) n gc := (own_slice hd6).elim (fun h => absurd h.2 (by omega)) (fun ⟨q, c, h0, _⟩ => ⟨q, c, h0⟩); have z2 := (from_cell hd6 hbn).trans (by rw [hf0]); have z3 := (hd6.lt sg rfl).2)
                        exact ⟨⟨b + 1, by omega, by go_num, by rw [HNX.out (fun k => by rw [HLP.out]; rfl)]; exact HFX.out.keep hb6⟩, by simp [intOf]; omega⟩
            · obtain rfl : b = n := by omega
              have hin0 := HFX.out.row
              rw [show (fun k => lpTo ways b top k) = (fun k => lpB ways top k) from by funext k; rw [HN.out]; exact lpTo_all ways top k] at hin0
              have HI0 := Lib.hid hin0
              have HW0 := Lib.hid (own_below HWR.out HFX.out.low)
              have HB0 := Lib.hid (HBR.out.trans (HFX.out.low.mono HBR.out.size))
              clear hin0 HFX HWR
              go_wp2_with (fail)
              go_loopw [113] (fun mv wz => ∃ m : Nat, m ≤ b ∧ mv = .int .i64 m ∧ Below w5.heap.size w5 wz ∧ wz.ownsRow wr.heap.size 4 1 (.slice (some ⟨ig, 0, none⟩) b b) b (((List.range b).map (fun k => lpB ways top k)).map Value.bool) ∧ wz.ownsRow wg 3 1 (.slice (some ⟨wg, 0, none⟩) b b) b (((List.range b).map (fun k => hIn ways top m k)).map iV)) (fun mv _ => b - (intOf mv).toNat)
              case atStart => exact ⟨0, Nat.zero_le _, rfl, HB0.out, HI0.out, by rw [range_ext (fun k _ => hIn_zero ways top k)]; exact HW0.out⟩
              case round =>
                rename World => wz
                obtain ⟨m, hm, rfl, hbz, hiz, hwz⟩ := hrel
                have HBZ := Lib.hid hbz; have HIZ := Lib.hid hiz; have HWZ := Lib.hid hwz
                clear HB0 HI0 HW0 hbz hiz hwz
                by_cases hmn : m < b
                · have hmi : (m : Int) < (b : Int) := by omega
                  obtain ⟨t1, t2, t3, t4⟩ := bool_at HIZ.out (range_get _ hmn)
                  cases hlp : lpB ways top m
                  · rw [hlp] at t1
                    have HS := Lib.hid (range_ext (n := b) (fun k _ => hIn_same (ways := ways) (top := top) hlp k))
                    clear t2 t3
                    go_wp2_with (fail)
                    exact ⟨⟨m + 1, by omega, by go_num, HBZ.out, HIZ.out, by rw [HS.out]; exact HWZ.out⟩, by simp [intOf]; omega⟩
                  · rw [hlp] at t1
                    have HS := Lib.hid (range_ext (n := b) (fun k _ => hIn_put (ways := ways) (top := top) hlp k))
                    obtain ⟨s1, s2, s3, s4⟩ := own_at HWZ.out (range_get _ hmn)
                    obtain ⟨v0, v1⟩ := hIn_le ways top m m
                    obtain ⟨v, hv⟩ : ∃ v, v = hIn ways top m m := ⟨_, rfl⟩
                    have HV := Lib.hid hv
                    rw [← hv] at s1 v0 v1
                    have v2 : v ≤ 13 := by omega
                    clear hv v1 t2 t3
                    go_wp2_with (fail)
                    have hput := own_put HWZ.out hmn (.int .i64 (v + 1))
                    rw [show Value.int .i64 (v + 1) = iV (v + 1) from rfl, ← List.map_set, range_set, HV.out, ← HS.out] at hput
                    have hne : ig ≠ wg := by omega
                    exact ⟨⟨m + 1, by omega, by go_num, below_put HBZ.out (Nat.le_of_eq HWG.out.symm) m _, own_keep HIZ.out (fun q hq => by cases hq; exact Below.heap_setCell _ _ _ _ hne), by rw [HV.out]; exact hput⟩, by simp [intOf]; omega⟩
                · obtain rfl : m = b := by omega
                  have HS := Lib.hid (range_ext (n := m) (fun k hk => hIn_end (ways := ways) (top := top) hk))
                  go_wp2_with (fail)
                  exact ⟨⟨top + 1, by omega, by go_num, HBZ.out, by rw [← HS.out]; exact HWZ.out⟩, by simp [intOf]; omega⟩
        · obtain rfl : top = n := by omega
          have HCN := Lib.hid (show ∀ k, cntTo ways top k = cntL ways k from fun k => by rw [HN.out]; rfl)
          go_wp2_with (fail)
          go_loopw [130] (fun iv wz => ∃ i : Nat, i ≤ top ∧ iv = .int .i64 i ∧ Below w5.heap.size w5 wz ∧ wz.ownsRow wg 3 1 (.slice (some ⟨wg, 0, none⟩) top top) top (((List.range top).map (fun k => (cntTo ways top k : Int))).map iV)) (fun iv _ => top - (intOf iv).toNat)
          case atStart => exact ⟨0, Nat.zero_le _, rfl, HBR.out, HWR.out⟩
          case round =>
            rename World => wz
            obtain ⟨i, hi, rfl, hbz, hwz⟩ := hrel
            have HBZ := Lib.hid hbz; have HWZ := Lib.hid hwz
            clear HBR HWR hbz hwz
            by_cases hin : i < top
            · have hii : (i : Int) < (top : Int) := by omega
              obtain ⟨s1, s2, s3, s4⟩ := own_at HWZ.out (range_get _ hin)
              have hgx := own_below HGV5.out HBZ.out
              have g1 := own_cell hgx (range_get _ hin)
              have g2 := (hgx.lt gg rfl).2
              rw [HCN.out i] at s1
              clear hgx s2 s3
              go_upto_region 42 with (fail)
              go_quiet (fail)
              have hbd := below_drewN (Below.refl wz.heap.size wz) nq
              have HBZ2 := Lib.hid (below_drewN HBZ.out nq)
              have HWZ2 := Lib.hid (own_below HWZ.out hbd)
              clear hbd HBZ HWZ s1 s4 g1 g2
              generalize wz.drewN nq = wy at *
              go_wp2_with (fail)
              exact ⟨⟨i + 1, by omega, by go_num, HBZ2.out, HWZ2.out⟩, by simp [intOf]; omega⟩
            · obtain rfl : i = top := by omega
              go_wp2_with (fail)
              go_ret
              exact ⟨rfl, HB5.out.trans (HBZ.out.mono HB5.out.size)⟩
end Go.Proofs.Ytipongpgmbhpkaa
