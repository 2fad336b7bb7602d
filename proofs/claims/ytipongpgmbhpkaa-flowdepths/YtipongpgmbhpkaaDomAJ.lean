/-
  The law's visit.
-/
import Derived.Test.YtipongpgmbhpkaaDomAE
import Derived.Test.YtipongpgmbhpkaaDomAH
namespace Go.Proofs.Ytipongpgmbhpkaa
open Go.ChangeShapes Go.WideShapes Go.ChangeAt Go.RowKit
set_option linter.unusedVariables false

structure VsAt (B : Nat) (w : World) (sg n : Nat) (ov : Value) (s : List Bool) (l : List Int) : Prop where
  srow : w.ownsRow B 4 1 (.slice (some ⟨sg, 0, none⟩) n n) n (s.map Value.bool)
  orow : w.ownsRow B 3 1 ov l.length (l.map iV)
theorem VsAt.below {B : Nat} {w w' : World} {sg n : Nat} {ov : Value} {s : List Bool} {l : List Int} (h : VsAt B w sg n ov s l) (hb : Below w.heap.size w w') : VsAt B w' sg n ov s l := ⟨own_below h.srow hb, own_below h.orow hb⟩
theorem VsAt.put {B : Nat} {w : World} {sg n : Nat} {ov : Value} {s : List Bool} {l : List Int} (h : VsAt B w sg n ov s l) {j : Nat} (hj : j < n) (y : Bool) : VsAt B (w.setCell ⟨sg, j, none⟩ (.bool y)) sg n ov (s.set j y) l := by
  refine ⟨?_, own_keep h.orow (fun q hq => Below.heap_setCell _ _ _ _ ?_)⟩
  · have := own_put h.srow hj (Value.bool y)
    rw [List.map_set]
    exact this
  · intro e
    exact own_apart h.orow h.srow (by decide) hq (congrArg some e.symm)
theorem VsAt.app {B : Nat} {w w' : World} {sg n g' cap' : Nat} {ov : Value} {s : List Bool} {l : List Int} (h : VsAt B w sg n ov s l) (y : Int) (hown : w'.ownsRow B 3 1 (.slice (some ⟨g', 0, none⟩) (l.length + 1) cap') (l.length + 1) (l.map iV ++ [.int .i64 y])) (hg : w.grownBy w' ov.ownBlock) : VsAt B w' sg n (.slice (some ⟨g', 0, none⟩) (l.length + 1) cap') s (l ++ [y]) := by
  refine ⟨own_keep h.srow (fun q hq => hg.block q (h.srow.lt q hq).2 (fun e => own_apart h.srow h.orow (by decide) hq e.symm)), ?_⟩
  rw [List.length_append, List.length_singleton, List.map_append]
  exact hown
theorem VsAt.sl {B : Nat} {w : World} {sg n : Nat} {ov : Value} {s : List Bool} {l : List Int} (h : VsAt B w sg n ov s l) : s.length = n := by
  have := own_len h.srow; simpa using this
/-- What a visit leaves of the lists. -/
theorem visit_len (ways : List (List Int)) : ∀ (k : Nat) (b : Int) (x : List Bool × List Int), 0 ≤ b → b < (ways.length : Int) → x.1.length = ways.length → x.1[b.toNat]? = some false → unseen x.1 ≤ k →
    (visitL ways k b x).1.length = x.1.length ∧ (visitL ways k b x).2.length + unseen (visitL ways k b x).1 = x.2.length + unseen x.1 ∧ unseen (visitL ways k b x).1 ≤ unseen x.1
  | 0, b, x, _, _, _, hb, hu => by
    have := unseen_set hb; omega
  | k + 1, b, x, h0, h1, hl, hb, hu => by
    have hs := unseen_set hb
    have fold : ∀ (row : List Int) (y : List Bool × List Int), y.1.length = ways.length → unseen y.1 ≤ k → (row.foldl (visitStep ways.length (visitL ways k)) y).1.length = y.1.length ∧ (row.foldl (visitStep ways.length (visitL ways k)) y).2.length + unseen (row.foldl (visitStep ways.length (visitL ways k)) y).1 = y.2.length + unseen y.1 ∧ unseen (row.foldl (visitStep ways.length (visitL ways k)) y).1 ≤ unseen y.1 := by
      intro row
      induction row with
      | nil => intro y _ _; exact ⟨rfl, rfl, Nat.le_refl _⟩
      | cons t row ih =>
        intro y hy hk
        rw [List.foldl_cons]
        have one : (visitStep ways.length (visitL ways k) y t).1.length = y.1.length ∧ (visitStep ways.length (visitL ways k) y t).2.length + unseen (visitStep ways.length (visitL ways k) y t).1 = y.2.length + unseen y.1 ∧ unseen (visitStep ways.length (visitL ways k) y t).1 ≤ unseen y.1 := by
          unfold visitStep
          split
          · rename_i hc
            have hlt : t.toNat < y.1.length := by omega
            have hf : y.1[t.toNat]? = some false := by
              have h3 := hc.2.2
              rw [List.getD_eq_getElem?_getD, List.getElem?_eq_getElem hlt] at h3
              rw [List.getElem?_eq_getElem hlt]
              exact congrArg some h3
            exact visit_len ways k t y hc.1 hc.2.1 hy hf hk
          · exact ⟨rfl, rfl, Nat.le_refl _⟩
        obtain ⟨p1, p2, p3⟩ := one
        obtain ⟨q1, q2, q3⟩ := ih _ (p1.trans hy) (Nat.le_trans p3 hk)
        exact ⟨q1.trans p1, q2.trans p2, Nat.le_trans q3 p3⟩
    obtain ⟨p1, p2, p3⟩ := fold (gr ways b) (x.1.set b.toNat true, x.2) (by dsimp only; rw [List.length_set]; exact hl) (by dsimp only; omega)
    unfold visitL
    dsimp only at p1 p2 p3 ⊢
    rw [List.length_set] at p1
    refine ⟨p1, ?_, by omega⟩
    rw [List.length_append, List.length_singleton]
    omega
/-- The part of a visit that has been done. -/
def kidsL (ways : List (List Int)) (k : Nat) (row : List Int) (j : Nat) (y : List Bool × List Int) : List Bool × List Int := (row.take j).foldl (visitStep ways.length (visitL ways k)) y
set_option maxHeartbeats 8000000 in
set_option maxRecDepth 100000 in
theorem visit_any : ∀ (k : Nat) {B : Nat} {w : World} {ways : List (List Int)} {wb woff wcap sg n : Nat} {ov : Value} {s : List Bool} {l : List Int} (b : Nat), OutsIn B w wb woff wcap ways → ways.length = n → n ≤ 1000 → (∀ r ∈ ways, r.length ≤ 1000) → VsAt B w sg n ov s l → s[b]? = some false → unseen s ≤ k → l.length + unseen s ≤ n →
    Calls Try.prog 16 #[.slice (some ⟨wb, woff, none⟩) n wcap, .int .i64 b, .slice (some ⟨sg, 0, none⟩) n n, ov] w fun e w' => ∃ ov', e = .returned ov' ∧ Below B w w' ∧ VsAt B w' sg n ov' (visitL ways k b (s, l)).1 (visitL ways k b (s, l)).2
  | 0, B, w, ways, wb, woff, wcap, sg, n, ov, s, l, b, _, _, _, _, _, hb, hu, _ => by
    have := unseen_set hb; omega
  | k + 1, B, w, ways, wb, woff, wcap, sg, n, ov, s, l, b, hat, hn, hn1, hr, hv, hb, hu, hln => by
    have ih := fun (w : World) (ov : Value) (s : List Bool) (l : List Int) (b : Nat) (h1 : OutsIn B w wb woff wcap ways) (h2 : VsAt B w sg n ov s l) => visit_any k (B := B) (w := w) (ways := ways) (wb := wb) (woff := woff) (wcap := wcap) (sg := sg) (n := n) (ov := ov) (s := s) (l := l) b h1 hn hn1 hr h2
    have hus := unseen_set hb
    have hbn : b < n := by have := (List.getElem?_eq_some_iff.1 hb).1; rw [hv.sl] at this; exact this
    obtain ⟨row, hrow⟩ : ∃ r, ways[b]? = some r := ⟨_, List.getElem?_eq_getElem (by omega)⟩
    have hrl : row.length ≤ 1000 := hr row (List.mem_of_getElem? hrow)
    obtain ⟨rv, hc, hrv⟩ := hat.rows b row hrow
    have hvs : visitL ways (k + 1) b (s, l) = ((kidsL ways k row row.length (s.set b true, l)).1, (kidsL ways k row row.length (s.set b true, l)).2 ++ [(b : Int)]) := by
      have hgr : gr ways (b : Int) = row := by unfold gr; rw [Int.toNat_natCast, List.getD_eq_getElem?_getD, hrow]; rfl
      unfold kidsL
      rw [List.take_length, visitL, hgr, Int.toNat_natCast]
    rw [hvs]
    obtain ⟨sb1, sb2, sb3, sb4⟩ := bool_at hv.srow hb
    have hbi : (b : Int) < (n : Int) := by omega
    have hwl := hat.lt
    obtain ⟨ra, rc, rfl⟩ := hrv.slice
    have HAT := Lib.hid hat; have HV := Lib.hid hv; have HRV := Lib.hid hrv; have HLN := Lib.hid hln; have HU := Lib.hid hu; have HUS := Lib.hid hus; have HN := Lib.hid hn; have HROW := Lib.hid hrow; have IH := Lib.hid ih
    have hlow := hat.low
    have hBw : B ≤ w.heap.size := Nat.le_of_lt (Nat.lt_of_le_of_lt sb3 sb4)
    clear hat hv hrv hln hu hus hn hrow ih hvs hr hb
    go_enter Try.func16, Try.ntmps16
    go_wp2_with (fail)
    have HV1 := Lib.hid (HV.out.put hbn true)
    have HB1 := Lib.hid (below_put (Below.refl B w) sb3 b (.bool true))
    generalize w.setCell ⟨sg, b, none⟩ (.bool true) = w1 at *
    clear sb1 sb2 hc
    go_loopw [3, 19] (fun v3 iv wr => ∃ (j : Nat) (s' : List Bool) (l' : List Int), j ≤ row.length ∧ iv = .int .i64 j ∧ kidsL ways k row j (s.set b true, l) = (s', l') ∧ Below B w wr ∧ VsAt B wr sg n v3 s' l' ∧ unseen s' ≤ k ∧ l'.length + unseen s' + 1 ≤ n) (fun _ iv _ => row.length - (intOf iv).toNat)
    case atStart => exact ⟨0, _, _, Nat.zero_le _, rfl, rfl, HB1.out, HV1.out, by have := HU.out; have := HUS.out; omega, by have := HLN.out; have := HUS.out; omega⟩
    case round =>
      rename World => wr
      obtain ⟨j, s', l', hj, rfl, hk, hbr, hvr, hur, hlr⟩ := hrel
      have HK := Lib.hid hk; have HBR := Lib.hid hbr; have HVR := Lib.hid hvr; have HUR := Lib.hid hur; have HLR := Lib.hid hlr
      clear hk hbr hvr hur hlr HV1 HB1
      by_cases hjl : j < row.length
      · have hji : (j : Int) < (row.length : Int) := by omega
        obtain ⟨x, hx⟩ : ∃ x, row[j]? = some x := ⟨_, List.getElem?_eq_getElem hjl⟩
        obtain ⟨rb, ro, rc2, hrv2, hrb, hrbl, hrc⟩ := (HRV.out.below HBR.out).get (by omega)
        have hrv1 : ra = some ⟨rb, ro, none⟩ ∧ rc = rc2 := by simp only [Value.slice.injEq] at hrv2; exact ⟨hrv2.1, hrv2.2.2⟩
        obtain ⟨rfl, rfl⟩ := hrv1
        have r1 := hrc j x hx
        have HSTEP := Lib.hid (show kidsL ways k row (j + 1) (s.set b true, l) = visitStep ways.length (visitL ways k) (s', l') x from by
          rw [← HK.out]
          unfold kidsL
          rw [List.take_succ_eq_append_getElem hjl, List.foldl_append, (List.getElem?_eq_some_iff.1 hx).2]
          rfl)
        clear hrc hrv2 hx
        by_cases hin : 0 ≤ x ∧ x < (n : Int)
        · obtain ⟨x0, x1⟩ := hin
          obtain ⟨t, rfl⟩ := Int.eq_ofNat_of_zero_le x0
          have htn : t < n := by omega
          obtain ⟨sb, hsb⟩ : ∃ sb, s'[t]? = some sb := ⟨_, List.getElem?_eq_getElem (by rw [HVR.out.sl]; exact htn)⟩
          obtain ⟨t1, t2, t3, t4⟩ := bool_at HVR.out.srow hsb
          have HSB := Lib.hid hsb
          clear hsb t2
          cases sb
          · have HST2 := Lib.hid (show visitStep ways.length (visitL ways k) (s', l') (t : Int) = visitL ways k (t : Int) (s', l') from by
              unfold visitStep
              rw [if_pos ⟨by omega, by rw [HN.out]; exact x1, by rw [Int.toNat_natCast, List.getD_eq_getElem?_getD, HSB.out]; rfl⟩])
            go_wp2_with (fail)
            refine (IH.out wr _ s' l' t (HAT.out.below HBR.out) HVR.out HSB.out HUR.out (by have := HLR.out; omega)).mono ?_
            rintro e w4 ⟨ov', rfl, hb4, hv4⟩
            have hlen := visit_len ways k (t : Int) (s', l') (by omega) (by rw [HN.out]; exact x1) (by rw [HVR.out.sl]; exact HN.out.symm) (by rw [Int.toNat_natCast]; exact HSB.out) HUR.out
            have HB4 := Lib.hid (HBR.out.trans hb4); have HV4 := Lib.hid hv4; have HLEN := Lib.hid hlen
            clear hb4 hv4 hlen
            go_wp2_with (fail)
            refine ⟨⟨j + 1, _, _, by omega, by go_num, HSTEP.out.trans (HST2.out.trans rfl), HB4.out, HV4.out, ?_, ?_⟩, by simp [intOf]; omega⟩
            · have h1 := HLEN.out.2.2
              have h2 := HUR.out
              exact Nat.le_trans h1 h2
            · have h1 := HLEN.out.2.1
              have h2 := HLR.out
              omega
          · have HST2 := Lib.hid (show visitStep ways.length (visitL ways k) (s', l') (t : Int) = (s', l') from by
              unfold visitStep
              rw [if_neg (fun h => by have := h.2.2; rw [Int.toNat_natCast, List.getD_eq_getElem?_getD, HSB.out] at this; cases this)])
            go_wp2_with (fail)
            refine ⟨⟨j + 1, s', l', by omega, by go_num, HSTEP.out.trans HST2.out, HBR.out, HVR.out, HUR.out, HLR.out⟩, by simp [intOf]; omega⟩
        · have HST2 := Lib.hid (show visitStep ways.length (visitL ways k) (s', l') x = (s', l') from by
            unfold visitStep
            rw [if_neg (fun h => hin ⟨h.1, by rw [← HN.out]; exact h.2.1⟩)])
          by_cases x0 : 0 ≤ x
          · have x1 : ¬ (x < (n : Int)) := fun h => hin ⟨x0, h⟩
            clear hin
            go_wp2_with (fail)
            refine ⟨⟨j + 1, s', l', by omega, by go_num, HSTEP.out.trans HST2.out, HBR.out, HVR.out, HUR.out, HLR.out⟩, by simp [intOf]; omega⟩
          · clear hin
            go_wp2_with (fail)
            refine ⟨⟨j + 1, s', l', by omega, by go_num, HSTEP.out.trans HST2.out, HBR.out, HVR.out, HUR.out, HLR.out⟩, by simp [intOf]; omega⟩
      · obtain rfl : j = row.length := by omega
        have hl1 : w.heap.size ≤ w.heap.size := Nat.le_refl _
        obtain ⟨m, hm⟩ : ∃ m, m = l'.length := ⟨_, rfl⟩
        have hvo := HVR.out.orow
        rw [← hm] at hvo
        obtain ⟨oa, oc, rfl⟩ := own_form hvo
        have HVO := Lib.hid hvo; have HM := Lib.hid hm
        have hm1 : m ≤ 1000 := by have := HLR.out; omega
        have hBr : B ≤ wr.heap.size := Nat.le_trans hBw (by have h := HBR.out.size; omega)
        obtain ⟨i0, hi, hz0⟩ := Option.map_eq_some_iff.1 info3
        obtain ⟨h1, h2, h3⟩ : i0.zero = some (.int .i64 0) ∧ i0.size = 1 ∧ i0.bytes = 8 := by simpa using hz0
        have HI := Lib.hid hi; have HZ0 := Lib.hid h1; have HZ1 := Lib.hid h2; have HZ2 := Lib.hid h3
        clear hi h1 h2 h3 hz0 hvo hm
        go_wp2_with (at_builtin; refine wpList_append_lies _ rfl _ _ 35 rfl B 3 i0 (.int .i64 0) 1 8 Try.underlying35 HI.out HZ0.out HZ1.out HZ2.out rfl (by decide) _ m (l'.map iV) rfl ?hown ⟨wr.heap.size, 0, none⟩ 1 1 [.int .i64 b] rfl rfl ?hnews (one_int _) (by decide) ?h63 ?hby ?hba (wr.heap.size + 1) ?hH ?_)
        case hown => exact HVO.out.alloc _
        all_goals try (case hnews => exact World.news_of_block (cs := #[.int .i64 b]) (alloc_at _ _ _ rfl))
        case h63 => unfold maxLen; omega
        case hby => omega
        case hba => first | omega | (simp; omega)
        all_goals try (case hH => simp)
        intro b7 cap7 w7 hown hgr hat hlt
        have hx := HVR.out.below (w' := wr.alloc (.cells #[.int .i64 b] 3 (0, 0))) ((Below.refl _ _).alloc (Nat.le_refl _) _)
        have HV7 := Lib.hid (hx.app (b : Int) (by rw [← HM.out]; exact hown) hgr)
        have HB7 := Lib.hid ((HBR.out.alloc hBr (.cells #[.int .i64 b] 3 (0, 0))).grown hgr (by simp; omega) (fun q hq => (HVO.out.lt q hq).1))
        clear hown hgr hat hlt hx
        go_wp2_with (fail)
        go_ret
        refine ⟨_, rfl, HB7.out, ?_⟩
        rw [HK.out, HM.out]
        exact HV7.out
end Go.Proofs.Ytipongpgmbhpkaa
