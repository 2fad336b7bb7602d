/-
  dom: walked: its contract.
-/
import Derived.Test.YtipongpgmbhpkaaDomI
namespace Go.Proofs.Ytipongpgmbhpkaa
open Go.ChangeShapes Go.WideShapes Go.ChangeAt Go.RowKit
open Go.Proofs.Ytipongpgmbhpkaa.RegInv
set_option linter.unusedVariables false

/-- Two rows are made, in either order. -/
structure RI (n : Nat) (w1 : World) (L : Nat → Bool) (g : Nat × Nat) (w : World) : Prop where
  low : Below w1.heap.size w1 w
  path : L 0 = true → w1.heap.size ≤ g.1 ∧ w.heap[g.1]? = some (.cells #[.int .i64 0] 3 (0, 0))
  tried : L 3 = true → w1.heap.size ≤ g.2 ∧ w.heap[g.2]? = some (.cells (madeCells #[.int .i64 0] n) 3 (0, 0))
  ne : L 0 = true → L 3 = true → g.1 ≠ g.2
def rV (ov : Value) (n : Nat) (g : Nat × Nat) : List Value :=
  [.slice (some ⟨g.1, 0, none⟩) 1 1, ov, .int .i64 n, .slice (some ⟨g.2, 0, none⟩) n n, .slice (some ⟨g.1, 0, none⟩) 1 1, .slice (some ⟨g.2, 0, none⟩) n n]
theorem RI.skip {n : Nat} {w1 : World} {L : Nat → Bool} {g : Nat × Nat} {w : World} (h : RI n w1 L g w) {i : Nat} (hi : 0 ≠ i ∧ 3 ≠ i) : RI n w1 (setL L i) g w := by
  obtain ⟨a, b, c, d⟩ := h
  obtain ⟨x, y⟩ := hi
  refine ⟨a, ?_, ?_, ?_⟩
  · rw [setL_ne x]; exact b
  · rw [setL_ne y]; exact c
  · rw [setL_ne x, setL_ne y]; exact d
theorem RI.first {n : Nat} {w1 : World} {L : Nat → Bool} {g : Nat × Nat} {w : World} (h : RI n w1 L g w) : RI n w1 (setL L 0) (w.heap.size, g.2) (w.alloc (.cells #[.int .i64 0] 3 (0, 0))) := by
  refine ⟨h.low.alloc h.low.size _, fun _ => ⟨h.low.size, alloc_at _ _ _ rfl⟩, fun a => ?_, fun _ a => ?_⟩
  · rw [setL_ne (by decide)] at a
    obtain ⟨h1, h2⟩ := h.tried a
    exact ⟨h1, (Below.heap_alloc _ _ _ (lt_heap h2)).trans h2⟩
  · rw [setL_ne (by decide)] at a
    have := lt_heap (h.tried a).2
    show w.heap.size ≠ g.2
    omega
theorem RI.second {n : Nat} {w1 : World} {L : Nat → Bool} {g : Nat × Nat} {w : World} (h : RI n w1 L g w) : RI n w1 (setL L 3) (g.1, w.heap.size) (w.alloc (.cells (madeCells #[.int .i64 0] n) 3 (0, 0))) := by
  refine ⟨h.low.alloc h.low.size _, fun a => ?_, fun _ => ⟨h.low.size, alloc_at _ _ _ rfl⟩, fun a _ => ?_⟩
  · rw [setL_ne (by decide)] at a
    obtain ⟨h1, h2⟩ := h.path a
    exact ⟨h1, (Below.heap_alloc _ _ _ (lt_heap h2)).trans h2⟩
  · rw [setL_ne (by decide)] at a
    have := lt_heap (h.path a).2
    show g.1 ≠ w.heap.size
    omega
theorem madeCells_one (z : Value) (n : Nat) : madeCells #[z] n = (List.replicate n z).toArray := by
  apply Array.ext
  · simp [madeCells]
  · intro i h1 h2
    simp [madeCells, Nat.mod_one]
theorem own_made {B b n : Nat} {w : World} (h : w.heap[b]? = some (.cells (madeCells #[.int .i64 0] n) 3 (0, 0))) (hB : B ≤ b) (hn : n ≤ maxLen) : w.ownsRow B 3 1 (.slice (some ⟨b, 0, none⟩) n n) (List.replicate n (0 : Int)).length ((List.replicate n (0 : Int)).map iV) := by
  rw [List.length_replicate]
  refine ⟨by simp, .inr ⟨b, n, _, rfl, hB, h, Nat.le_refl _, hn, ?_, ?_⟩⟩
  · rw [madeCells_one]; simp
  · rw [madeCells_one]; simp [iV]
theorem own_one {B b : Nat} {w : World} {x : Int} (h : w.heap[b]? = some (.cells #[.int .i64 x] 3 (0, 0))) (hB : B ≤ b) : w.ownsRow B 3 1 (.slice (some ⟨b, 0, none⟩) 1 1) [x].length ([x].map iV) :=
  ⟨rfl, .inr ⟨b, 1, _, rfl, hB, h, Nat.le_refl _, by decide, rfl, rfl⟩⟩
theorem fills_set (n j : Nat) (h : j < n) : (List.replicate j (-1 : Int) ++ List.replicate (n - j) 0).set j (-1) = List.replicate (j + 1) (-1) ++ List.replicate (n - (j + 1)) 0 := by
  rw [List.set_append_right _ _ (by simp), List.length_replicate, Nat.sub_self]
  obtain ⟨d, hd⟩ : ∃ d, n - j = d + 1 := ⟨n - j - 1, by omega⟩
  rw [hd, List.replicate_succ, List.set_cons_zero, show n - (j + 1) = d by omega, List.replicate_succ', List.append_assoc]
  rfl
set_option maxHeartbeats 8000000 in
set_option maxRecDepth 100000 in
theorem walked_any {w : World} {outs : List (List Int)} (hne : outs ≠ []) {b off cap : Nat} (hat : OutsAt w.heap.size w b off cap outs) (hn : outs.length ≤ 1000000) (he : edges outs ≤ 1000000) :
    Calls Try.prog 23 #[.slice (some ⟨b, off, none⟩) outs.length cap] w fun e w' => ∃ nv pv iv hs, e = .returned (.pointer (some ⟨w.heap.size + 1, 0, none⟩)) ∧ Below w.heap.size w w' ∧ WalkAt w.heap.size w' (w.heap.size + 1) nv pv iv hs (walkedL outs) [] := by
  obtain ⟨i0, hi, hz0⟩ := Option.map_eq_some_iff.1 info3
  obtain ⟨h1, h2, h3⟩ : i0.zero = some (.int .i64 0) ∧ i0.size = 1 ∧ i0.bytes = 8 := by simpa using hz0
  have HI := Lib.hid hi; have HZ0 := Lib.hid h1; have HZ1 := Lib.hid h2; have HZ2 := Lib.hid h3
  clear hi h1 h2 h3 hz0
  have HOUT := Lib.hid hat
  have HNE := Lib.hid hne
  have hpos : 0 < outs.length := List.length_pos_iff.2 hne
  obtain ⟨n, hnn⟩ : ∃ n, n = outs.length := ⟨_, rfl⟩
  have HN := Lib.hid hnn
  rw [← hnn] at hn hpos ⊢
  clear hat hne hnn
  have hmk := run_make_row' (P := Try.prog) 35 3 (.int .i64 0) 8 Try.underlying35 info3 rfl .i64 .i64 n (by omega) (by omega)
  go_enter Try.func23, Try.ntmps23
  go_upto_region 2 with (fail)
  have hm := own_made (B := w.heap.size) (b := w.heap.size) (n := n) (w := (w.alloc (.cells (madeCells #[.int .i64 0] n) 3)).alloc (.cells #[.slice (some ⟨w.heap.size, 0, none⟩) n n, .slice none 0 0, .slice none 0 0] 65)) ((Below.heap_alloc _ _ _ (by simp)).trans (alloc_at _ _ _ rfl)) (Nat.le_refl _) (by unfold maxLen; omega)
  have h0 : WalkAt w.heap.size ((w.alloc (.cells (madeCells #[.int .i64 0] n) 3)).alloc (.cells #[.slice (some ⟨w.heap.size, 0, none⟩) n n, .slice none 0 0, .slice none 0 0] 65)) (w.heap.size + 1) (.slice (some ⟨w.heap.size, 0, none⟩) n n) (.slice none 0 0) (.slice none 0 0) [] ⟨List.replicate 0 (-1) ++ List.replicate (n - 0) 0, [], []⟩ [] := by
    refine ⟨alloc_at _ _ _ (by simp), by omega, own_nil _ _ _, rfl, ?_⟩
    exact ((Bag.nil _ _).more _ (List.replicate n 0) hm (fun i r hi => by simp at hi)).more (.slice none 0 0) [] (own_nil _ _ _) (fun i r hi q hq e => by cases e)
  have hb0 : Below w.heap.size w ((w.alloc (.cells (madeCells #[.int .i64 0] n) 3)).alloc (.cells #[.slice (some ⟨w.heap.size, 0, none⟩) n n, .slice none 0 0, .slice none 0 0] 65)) := ((Below.refl _ _).alloc (Nat.le_refl _) _).alloc (by simp) _
  change Code.wp _ _ _ _ ((w.alloc (.cells (madeCells #[.int .i64 0] n) 3)).alloc (.cells #[.slice (some ⟨w.heap.size, 0, none⟩) n n, .slice none 0 0, .slice none 0 0] 65))
  clear hm hmk
  generalize (w.alloc (.cells (madeCells #[.int .i64 0] n) 3)).alloc (.cells #[.slice (some ⟨w.heap.size, 0, none⟩) n n, .slice none 0 0, .slice none 0 0] 65) = w1 at *
  obtain ⟨⟨c0, c1, c2⟩, hf, hWl⟩ := wbox h0.box
  have HW0 := Lib.hid h0; have HB0 := Lib.hid hb0
  clear h0 hb0 hf c1 c2
  go_wp2_with (fail)
  go_loopw [19] (fun i wr => ∃ j : Nat, j ≤ n ∧ i = .int .i64 j ∧ Below w.heap.size w wr ∧ WalkAt w.heap.size wr (w.heap.size + 1) (.slice (some ⟨w.heap.size, 0, none⟩) n n) (.slice none 0 0) (.slice none 0 0) [] ⟨List.replicate j (-1) ++ List.replicate (n - j) 0, [], []⟩ []) (fun i _ => n - (intOf i).toNat)
  case atStart => exact ⟨0, Nat.zero_le _, rfl, HB0.out, HW0.out⟩
  case round =>
    clear c0 hWl
    obtain ⟨j, hj, rfl, hbr, hwr⟩ := hrel
    obtain ⟨⟨c0, c1, c2⟩, hf, hWl⟩ := wbox hwr.box
    by_cases hjl : j < n
    · have hji : (j : Int) < (n : Int) := by omega
      have hr0 := hwr.bag.row 0 _ _ rfl
      have hgl : w.heap.size < wr.heap.size := by omega
      obtain ⟨hy, hfz, _, _⟩ := own_at hr0 (j := j) (List.getElem?_eq_getElem (by simp; omega))
      have HWR := Lib.hid hwr; have HBR := Lib.hid hbr
      clear hwr hbr hf c1 c2 hr0 hj
      go_wp2_with (fail)
      go_roundw
      case rel =>
        refine ⟨j + 1, by omega, by go_num, below_put HBR.out (Nat.le_refl _) _ _, ?_⟩
        have := HWR.out.putnum (j := j) (by simp; omega) hjl (-1)
        rw [fills_set n j hjl] at this
        exact this
      case measure => simp [intOf]; omega
    · obtain rfl : j = n := by omega
      have hji : decide ((j : Int) < (j : Int)) = false := by simp
      have HWR := Lib.hid hwr; have HBR := Lib.hid hbr
      clear hwr hbr hf c1 c2
      have hlr : (List.replicate j (-1 : Int) ++ List.replicate (j - j) 0).length = j := by simp
      have hsE : (⟨List.replicate j (-1) ++ List.replicate (j - j) 0, [], []⟩ : Wk) = Wk.none j := by unfold Wk.none; simp
      rw [hsE] at HWR
      have hnl : (Wk.none j).num.length = j := by unfold Wk.none; simp
      clear hlr hsE
      go_wp2_with (go_at_call 27; refine (meet_any HWR.out 0 (by rw [hnl]; exact hpos) 0 (Nat.zero_le _) (Nat.zero_le _) (by rw [hnl]; exact hn)).mono ?_; rintro e w2 ⟨rfl, hb2, pv2, iv2, hw2⟩)
      have HB2 := Lib.hid (HBR.out.trans hb2); have HW2 := Lib.hid hw2
      clear hb2 hw2 HWR HBR c0 hWl hj hji
      refine wp_region_by (by kernel_rfl) (rV (.slice (some ⟨b, off, none⟩) j cap) j) (RI j w2) (0, 0) (fun _ => rfl) (by kernel_rfl) ?h0 ?steps ?done
      case h0 => exact ⟨⟨rfl, rfl, rfl, Nat.le_refl _, fun _ _ => rfl⟩, fun a => by simp at a, fun a => by simp at a, fun a => by simp at a⟩
      case done =>
        intro g w' hI
        obtain ⟨p1, p2⟩ := hI.path rfl
        obtain ⟨t1, t2⟩ := hI.tried rfl
        have hBw : w.heap.size ≤ w2.heap.size := HB2.out.size
        have hx := HW2.out.ext2 (xs := [0]) (ys := List.replicate j 0) hI.low (own_one p2 (by omega)) (own_made (n := j) t2 (by omega) (by unfold maxLen; omega)) (fun q hq => by cases hq; exact p1) (fun q hq => by cases hq; exact t1) (fun q hq e => hI.ne rfl rfl (by have h1 : g.1 = q := Option.some.inj hq; have h2 : g.2 = q := Option.some.inj e; omega))
        have HX := Lib.hid hx
        have HB3 := Lib.hid (HB2.out.trans (hI.low.mono hBw))
        clear hx hI p1 p2 t1 t2
        obtain ⟨gp, gt⟩ := g
        simp only [full, rV, Act.put, List.setIfInBounds_toArray, List.set_cons_zero, List.set_cons_succ]
        go_wp2_with (fail)
        obtain ⟨K0, hK0⟩ : ∃ k, k = 2 * edges outs + 2 := ⟨_, rfl⟩
        obtain ⟨fin, hfin⟩ : ∃ s, s = walkedL outs := ⟨_, rfl⟩
        have HK0 := Lib.hid hK0; have HFIN := Lib.hid hfin
        clear hK0 hfin
        go_loopg [5] K0 (fun k p wx => ∃ (x : WS) (pv iv : Value) (hs : List Value) (pa : Option Addr) (pc m : Nat), p = .slice pa m pc ∧ x.path.length = m ∧ k ≤ K0 ∧ x.ok outs ∧ x.left outs ≤ k ∧ (x.run outs k).s = fin ∧ Below w.heap.size w wx ∧ WalkAt w.heap.size wx (w.heap.size + 1) (.slice (some ⟨w.heap.size, 0, none⟩) j j) pv iv hs x.s [(.slice pa m pc, x.path), (.slice (some ⟨gt, 0, none⟩) j j, x.tried)])
        case atStart =>
          have h1 := WS.ok.first HNE.out
          rw [← HN.out] at h1
          exact ⟨WS.first j, pv2, iv2, _, some ⟨gp, 0, none⟩, 1, 1, rfl, rfl, Nat.le_refl _, h1.1, by rw [h1.2, HK0.out]; omega, by rw [HK0.out, HFIN.out, HN.out]; rfl, HB3.out, HX.out⟩
        case round =>
          obtain ⟨x, pv, iv, hs, pa, pc, m, rfl, hml, hgk, hok, hlf, hrun, hbx, hwx⟩ := hrel
          have HWX := Lib.hid hwx; have HBX := Lib.hid hbx; have HOK := Lib.hid hok; have HRUN := Lib.hid hrun; have HML := Lib.hid hml; have HLF := Lib.hid hlf
          clear hml hok hrun hbx hwx hlf
          by_cases hm0 : m = 0
          · subst hm0
            have hE : x.s = fin := by
              have hp : x.path = [] := List.length_eq_zero_iff.1 HML.out
              have := HRUN.out
              rw [WS.run_nil hp] at this
              exact this
            rw [hE, HFIN.out] at HWX
            clear hE
            go_wp2_with (fail)
            go_ret
            exact ⟨_, _, _, _, rfl, HBX.out, HWX.out.bare⟩
          · have hL1 : (0 : Int) < (m : Int) := by omega
            obtain ⟨q, hq⟩ : ∃ q, m = q + 1 := ⟨m - 1, by omega⟩
            have HQ := Lib.hid hq
            have hp : x.path ≠ [] := fun e => by have := HML.out; rw [e] at this; exact hm0 this.symm
            have hpin := HOK.out.pin _ (last_mem hp)
            obtain ⟨f, hf⟩ : ∃ f : Nat, x.path.getLastD 0 = f := ⟨(x.path.getLastD 0).toNat, by omega⟩
            have hlast := last_get (HML.out.trans hq)
            rw [hf] at hpin hlast
            rw [← HN.out] at hpin
            have hfj : f < j := by omega
            have hfi : (f : Int) < (j : Int) := by omega
            obtain ⟨pg, hpa, hcap⟩ := own_head (HWX.out.bag.row 2 _ _ rfl) (by rw [HML.out]; omega)
            subst hpa
            obtain ⟨c5, _, _, _⟩ := own_at (HWX.out.bag.row 2 _ _ rfl) hlast
            have htk := gi_get (l := x.tried) (v := f) (by rw [HOK.out.tl, ← HN.out]; exact hfj)
            obtain ⟨row, hrow⟩ : ∃ r, outs[f]? = some r := ⟨_, List.getElem?_eq_getElem (by rw [← HN.out]; exact hfj)⟩
            have htin := HOK.out.tin f row hrow
            obtain ⟨k, hk⟩ : ∃ k : Int, gi x.tried f = k := ⟨_, rfl⟩
            rw [hk] at htk htin
            obtain ⟨c6, z6, y6, l6⟩ := own_at (HWX.out.bag.row 3 _ _ rfl) htk
            obtain ⟨rv, c7, hrv⟩ := (HOUT.out.below HBX.out).rows f row hrow
            have l7 := (HOUT.out.below HBX.out).lt
            obtain ⟨ra, rc, rfl⟩ := hrv.slice
            have hmc : (q : Int) ≤ (pc : Int) := by omega
            clear hcap
            have hm1 : (q : Int) < (m : Int) := by omega
            have hmb : m ≤ 2000002 := by
              have h1 := HLF.out
              have h2 := HML.out
              have h3 := HK0.out
              unfold WS.left at h1
              omega
            have HWM := Lib.hid (show wrap64 ((m : Int) - 1) = (q : Int) from by rw [hq]; rw [show (((q + 1 : Nat) : Int) - 1) = (q : Int) by omega]; exact Go.IntWalk.wrap64_in (q : Int) (by omega))
            have HF := Lib.hid hf; have HROW := Lib.hid hrow; have HK := Lib.hid hk; have HRV := Lib.hid hrv; have HP := Lib.hid hp
            clear hmb hq hm0 hf hrow hk hrv hlast htk hp hpin
            by_cases hkl : k = row.length
            · subst hkl
              have HTIN := Lib.hid htin
              clear htin
              have hwm : wrap64 ((m : Int) - 1) = (q : Int) := HWM.out
              go_upto_region 11 with (fail)
              go_quiet (fail)
              go_wp2_with (fail)
              clear hwm
              go_roundg (gk - 1)
              case measure =>
                have h1 := HLF.out
                have h2 := HML.out
                unfold WS.left at h1
                omega
              case rel =>
                have h1 := HLF.out
                have h2 := HML.out
                obtain ⟨s1, s2⟩ := HOK.out.step HP.out
                have e1 := step_end HF.out HROW.out HK.out
                obtain ⟨g', hg'⟩ : ∃ g', gk = g' + 1 := ⟨gk - 1, by unfold WS.left at h1; omega⟩
                have e2 := HRUN.out
                rw [hg', WS.run_step HP.out] at e2
                have h3 := HQ.out
                have e3 := HWX.out.takeext (i := 0) (m := q) rfl h2 (by omega)
                rw [e1] at s1 s2 e2
                rw [h2, h3, Nat.add_sub_cancel] at s1 s2 e2
                subst hg'
                refine ⟨⟨x.s, x.path.take q, x.tried⟩, pv, iv, hs, some ⟨pg, 0, none⟩, pc, q, ?_, by dsimp only; rw [List.length_take, h2]; omega, by omega, s1, by omega, e2, below_drewN HBX.out _, e3.below (below_drewN (Below.refl _ _) _)⟩
                rfl
            · have hkl2 : (k : Int) < (row.length : Int) := by omega
              have hk0 : 0 ≤ k := htin.1
              have hkn : k.toNat < row.length := by omega
              obtain ⟨tt, htt⟩ : ∃ tt, row[k.toNat]? = some tt := ⟨_, List.getElem?_eq_getElem hkn⟩
              obtain ⟨rb, ro, rc2, hrv, hrl, l8, hrc⟩ := HRV.out.lies.resolve_left (fun h => by rw [h.2] at hkn; simp at hkn)
              have c8 := hrc k.toNat tt htt
              have hrv1 : ra = some ⟨rb, ro, none⟩ ∧ rc = rc2 := by simp only [Value.slice.injEq] at hrv; exact ⟨hrv.1, hrv.2.2⟩
              obtain ⟨rfl, rfl⟩ := hrv1
              have qk : (k == ((row.length : Nat) : Int)) = false := by simp; omega
              have HWK := Lib.hid (show wrap64 (k + 1) = k + 1 from Go.IntWalk.wrap64_in _ (by
                have h2 := row_le HROW.out
                omega))
              have HST := Lib.hid (step_way HF.out HROW.out (k := k.toNat) (by rw [HK.out]; omega) htt)
              rw [Int.toNat_of_nonneg hk0] at HST
              have HSO := Lib.hid (HOK.out.step HP.out)
              clear htt hrv hrc htin hkn hkl
              have hwm : wrap64 ((m : Int) - 1) = (q : Int) := HWM.out
              go_upto_region 11 with (fail)
              go_quiet (fail)
              rename Nat => n1
              go_upto_region 13 with (fail)
              go_quiet (fail)
              have hwk := HWK.out
              go_upto_region 15 with (fail)
              clear hwm hwk
              have hbd := below_drewN (Below.refl wr.heap.size wr) (n1 + nq)
              have hwy := (HWX.out.below hbd).putext (i := 1) rfl (HOK.out.tl.trans HN.out.symm) hfj (k + 1)
              have hby := below_put (below_drewN HBX.out (n1 + nq)) y6 f (.int .i64 (k + 1))
              clear hbd c5 c6 c7 c8 z6 l6 l7 l8 qk HWX HBX
              generalize (wr.drewN (n1 + nq)).setCell ⟨gt, f, none⟩ (.int .i64 (k + 1)) = wy at *
              have HWY := Lib.hid hwy; have HBY := Lib.hid hby
              obtain ⟨⟨b0, _, _⟩, _, hWy⟩ := wbox hwy.box
              clear hwy hby
              obtain ⟨g', hg'⟩ : ∃ g', gk = g' + 1 := ⟨gk - 1, by have h1 := HLF.out; have h2 := HML.out; unfold WS.left at h1; omega⟩
              subst hg'
              have HRU := Lib.hid (show ((x.step outs).run outs g').s = fin from by have := HRUN.out; rw [WS.run_step HP.out] at this; exact this)
              have HLE := Lib.hid (show (x.step outs).left outs ≤ g' from by have h1 := HLF.out; have h2 := HSO.out.2; omega)
              have HS1 := Lib.hid HSO.out.1
              have HLF0 := HLF
              clear HSO HRUN HLF
              by_cases hr : 0 ≤ tt ∧ tt < (j : Int)
              · rw [if_pos (by rw [← HN.out]; exact hr)] at HST
                obtain ⟨hr0, hr1⟩ := hr
                obtain ⟨t, ht⟩ : ∃ t : Nat, tt = t := ⟨tt.toNat, by omega⟩
                subst ht
                rw [Int.toNat_natCast] at HST
                have htj : t < j := by omega
                have hpar : x.s.par.length ≤ 1000000 := by have := HOK.out.par; have := HN.out; omega
                have HG := Lib.hid (goes_any HWY.out HOK.out.sok f t (by rw [HOK.out.nl, ← HN.out]; exact hfj) (by rw [HOK.out.nl, ← HN.out]; exact htj) (by rw [HOK.out.nl, ← HN.out]; exact hn) hpar (fun r hr => by have := HOK.out.rows r hr; omega))
                have HM := Lib.hid (show m ≤ 2000002 from by have h1 := HLE.out; have h2 := HOK.out.rle; have h3 := HML.out; have h4 := HK0.out; have h5 := HLF0.out; unfold WS.left at h5; omega)
                clear hr0 hr1 hpar
                by_cases hnew : x.s.isNew t = true
                · rw [hnew] at HG
                  rw [if_pos hnew] at HST
                  clear hnew
                  have hE := HST.out
                  rw [hE] at HRU HLE HS1
                  clear hE HST
                  go_upto_region 16 with (go_at_call 28; refine HG.out.mono ?_; rintro e w3 ⟨rfl, hb3, pv3, iv3, hs3, hw3⟩)
                  have HB3 := Lib.hid (HBY.out.trans hb3); have HW3 := Lib.hid hw3
                  have hl3 := (wbox hw3.box).2.2
                  clear hb3 hw3 HG
                  go_wp2_with (at_builtin; refine wpList_append_lies _ rfl _ _ 35 rfl w.heap.size 3 i0 (.int .i64 0) 1 8 Try.underlying35 HI.out HZ0.out HZ1.out HZ2.out rfl (by decide) _ m (x.path.map iV) rfl ?hown ⟨w3.heap.size, 0, none⟩ 1 1 [.int .i64 t] rfl rfl ?hnews (one_int _) (by decide) ?h63 ?hby ?hba (w3.heap.size + 1) ?hH ?_)
                  case hown =>
                    have := (HW3.out.below ((Below.refl _ _).alloc (Nat.le_refl _) (.cells #[.int .i64 t] 3 (0, 0)))).bag.row 2 _ _ rfl
                    rw [HML.out] at this
                    exact this
                  case hnews => exact World.news_of_block (cs := #[.int .i64 t]) (alloc_at _ _ _ rfl)
                  case h63 => have := HM.out; unfold maxLen; omega
                  case hby => have := HM.out; omega
                  case hba => first | omega | (simp; omega)
                  all_goals try (case hH => simp)
                  intro b4 cap4 w4 hown4 hgr4 hat4 hlt4
                  have hwa := HW3.out.below ((Below.refl _ _).alloc (Nat.le_refl _) (.cells #[.int .i64 t] 3 (0, 0)))
                  have hr4 := hwa.bag.row 2 _ _ rfl
                  have HW4 := Lib.hid (hwa.appext (i := 0) rfl HML.out t hown4 hgr4 (by rcases hat4 with h | h; exact .inl h; exact .inr (by simp; omega)))
                  have HB4 := Lib.hid ((HB3.out.alloc (by omega) _).grown hgr4 (by simp; omega) (fun k hk => (hr4.lt k hk).1))
                  clear hwa hr4 hown4 hgr4 hat4 hlt4 HW3
                  go_wp2_with (fail)
                  go_roundg g'
                  case measure => omega
                  case rel => exact ⟨⟨x.s.goes f t, x.path ++ [(t : Int)], x.tried.set f (k + 1)⟩, pv3, iv3, hs3, some ⟨b4, 0, none⟩, cap4, m + 1, rfl, by dsimp only; rw [List.length_append, HML.out]; rfl, by omega, HS1.out, HLE.out, HRU.out, HB4.out, HW4.out⟩
                · rw [Bool.not_eq_true] at hnew
                  rw [hnew] at HG
                  rw [if_neg (by rw [hnew]; decide)] at HST
                  clear hnew
                  have hE := HST.out
                  rw [hE] at HRU HLE HS1
                  clear hE HST
                  go_wp2_with (go_at_call 28; refine HG.out.mono ?_; rintro e w3 ⟨rfl, hb3, pv3, iv3, hs3, hw3⟩)
                  go_roundg g'
                  case measure => omega
                  case rel => exact ⟨⟨x.s.goes f t, x.path, x.tried.set f (k + 1)⟩, pv3, iv3, hs3, some ⟨pg, 0, none⟩, pc, m, rfl, HML.out, by omega, HS1.out, HLE.out, HRU.out, HBY.out.trans hb3, hw3⟩
              · rw [if_neg (by rw [← HN.out]; exact hr)] at HST
                have hE := HST.out
                rw [hE] at HRU HLE HS1
                clear hE HST
                have HEND := Lib.hid (show ∃ (x : WS) (pv iv : Value) (hs : List Value) (pa : Option Addr) (pc' m' : Nat), Value.slice (some ⟨pg, 0, none⟩) m pc = .slice pa m' pc' ∧ x.path.length = m' ∧ g' ≤ K0 ∧ x.ok outs ∧ x.left outs ≤ g' ∧ (x.run outs g').s = fin ∧ Below w.heap.size w wy ∧ WalkAt w.heap.size wy (w.heap.size + 1) (.slice (some ⟨w.heap.size, 0, none⟩) j j) pv iv hs x.s [(.slice pa m' pc', x.path), (.slice (some ⟨gt, 0, none⟩) j j, x.tried)] from ⟨⟨x.s, x.path, x.tried.set f (k + 1)⟩, pv, iv, hs, some ⟨pg, 0, none⟩, pc, m, rfl, HML.out, by omega, HS1.out, HLE.out, HRU.out, HBY.out, HWY.out⟩)
                by_cases h0 : 0 ≤ tt
                · have q0 : decide (0 ≤ tt) = true := decide_eq_true h0
                  have q1 : decide (tt < (j : Int)) = false := decide_eq_false (fun h => hr ⟨h0, h⟩)
                  clear hr h0
                  go_wp2_with (fail)
                  go_roundg g'
                  case measure => omega
                  case rel => exact HEND.out
                · have q0 : decide (0 ≤ tt) = false := decide_eq_false h0
                  clear hr h0
                  go_wp2_with (fail)
                  go_roundg g'
                  case measure => omega
                  case rel => exact HEND.out
      case steps =>
        have hmk := run_make_row' (P := Try.prog) 35 3 (.int .i64 0) 8 Try.underlying35 info3 rfl .i64 .i64 j (by omega) (by omega)
        refine Steps.cons (k' := 1) ?s0 rfl (Steps.cons (k' := 2) ?s1 rfl (Steps.cons (k' := 3) ?s2 rfl (Steps.cons (k' := 4) ?s3 rfl (Steps.cons (k' := 5) ?s4 rfl (Steps.cons (k' := 6) ?s5 rfl Steps.nil)))))
        case s0 =>
          intro L g w' hL hd hcl hI K hK
          simp only [full, rV, Act.put, List.setIfInBounds_toArray, List.set_cons_zero, List.set_cons_succ] at hK ⊢
          have l4 : L 4 = false := hcl.not 4 0 (by kernel_rfl) hL
          have HL := Lib.hid hL; have HD := Lib.hid hd; have HC := Lib.hid hcl; have HJ := Lib.hid hI; have HK := Lib.hid hK
          clear hL hd hcl hI hK
          go_simp
          exact HK.out _ _ (w'.heap.size, g.2) rfl (get_trans (set_get 0 HL.out rfl) (set_get 4 l4 rfl)) HJ.out.first
        case s1 =>
          intro L g w' hL hd hcl hI K hK
          simp only [full, rV, Act.put, List.setIfInBounds_toArray, List.set_cons_zero, List.set_cons_succ] at hK ⊢
          have HL := Lib.hid hL; have HD := Lib.hid hd; have HC := Lib.hid hcl; have HJ := Lib.hid hI; have HK := Lib.hid hK
          clear hL hd hcl hI hK
          go_simp
          exact HK.out _ _ g rfl (fun _ _ => rfl) (HJ.out.skip (by decide))
        case s2 =>
          intro L g w' hL hd hcl hI K hK
          simp only [full, rV, Act.put, List.setIfInBounds_toArray, List.set_cons_zero, List.set_cons_succ] at hK ⊢
          have HL := Lib.hid hL; have HD := Lib.hid hd; have HC := Lib.hid hcl; have HJ := Lib.hid hI; have HK := Lib.hid hK
          clear hL hd hcl hI hK
          go_simp
          exact HK.out _ _ g rfl (fun _ _ => rfl) (HJ.out.skip (by decide))
        case s3 =>
          intro L g w' hL hd hcl hI K hK
          simp only [full, rV, Act.put, List.setIfInBounds_toArray, List.set_cons_zero, List.set_cons_succ] at hK ⊢
          have l5 : L 5 = false := hcl.not 5 3 (by kernel_rfl) hL
          have HL := Lib.hid hL; have HD := Lib.hid hd; have HC := Lib.hid hcl; have HJ := Lib.hid hI; have HK := Lib.hid hK
          clear hL hd hcl hI hK
          go_simp
          exact HK.out _ _ (g.1, w'.heap.size) rfl (get_trans (set_get 3 HL.out rfl) (set_get 5 l5 rfl)) HJ.out.second
        case s4 =>
          intro L g w' hL hd hcl hI K hK
          simp only [full, rV, Act.put, List.setIfInBounds_toArray, List.set_cons_zero, List.set_cons_succ] at hK ⊢
          have HL := Lib.hid hL; have HD := Lib.hid hd; have HC := Lib.hid hcl; have HJ := Lib.hid hI; have HK := Lib.hid hK
          clear hL hd hcl hI hK
          go_simp
          exact HK.out _ _ g rfl (fun _ _ => rfl) (HJ.out.skip (by decide))
        case s5 =>
          intro L g w' hL hd hcl hI K hK
          simp only [full, rV, Act.put, List.setIfInBounds_toArray, List.set_cons_zero, List.set_cons_succ] at hK ⊢
          have HL := Lib.hid hL; have HD := Lib.hid hd; have HC := Lib.hid hcl; have HJ := Lib.hid hI; have HK := Lib.hid hK
          clear hL hd hcl hI hK
          go_simp
          exact HK.out _ _ g rfl (fun _ _ => rfl) (HJ.out.skip (by decide))
end Go.Proofs.Ytipongpgmbhpkaa
