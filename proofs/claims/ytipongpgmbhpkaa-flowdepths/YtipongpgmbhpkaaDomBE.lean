/-
  The law's from.
-/
import Derived.Test.YtipongpgmbhpkaaDomBD
namespace Go.Proofs.Ytipongpgmbhpkaa
open Go.ChangeShapes Go.WideShapes Go.ChangeAt Go.RowKit
set_option linter.unusedVariables false

theorem boolmade {w : World} {n : Nat} (h : n ≤ maxLen) : (w.alloc (.cells (madeCells #[.bool false] n) 4)).ownsRow w.heap.size 4 1 (.slice (some ⟨w.heap.size, 0, none⟩) n n) n ((List.replicate n false).map Value.bool) := by
  refine ⟨by simp, .inr ⟨w.heap.size, n, _, rfl, Nat.le_refl _, alloc_at _ _ _ rfl, Nat.le_refl _, h, ?_, ?_⟩⟩
  · rw [madeCells_one]; simp
  · rw [madeCells_one]; simp
theorem fromEdge_skip {n : Nat} {but : Int} {b : Nat} {out : List Bool} {tt : Int} (h : ¬ (out.getD b false = true ∧ 0 ≤ tt ∧ tt < (n : Int) ∧ tt ≠ but)) : fromEdge n but b out tt = out := if_neg h
theorem fromEdge_set {n : Nat} {but : Int} {b : Nat} {out : List Bool} {tt : Int} (h : out.getD b false = true ∧ 0 ≤ tt ∧ tt < (n : Int) ∧ tt ≠ but) : fromEdge n but b out tt = out.set tt.toNat true := if_pos h
structure FrAt (w wr : World) (g n : Nat) (out : List Bool) : Prop where
  low : Below w.heap.size w wr
  row : wr.ownsRow w.heap.size 4 1 (.slice (some ⟨g, 0, none⟩) n n) n (out.map Value.bool)
theorem FrAt.put {w wr : World} {g n : Nat} {out : List Bool} (h : FrAt w wr g n out) {j : Nat} (hj : j < n) : FrAt w (wr.setCell ⟨g, j, none⟩ (.bool true)) g n (out.set j true) := by
  refine ⟨below_put h.low (h.row.lt g rfl).1 j _, ?_⟩
  have := own_put h.row hj (Value.bool true)
  rw [List.map_set]
  exact this
theorem FrAt.ol {w wr : World} {g n : Nat} {out : List Bool} (h : FrAt w wr g n out) : out.length = n := by
  have := own_len h.row; simpa using this
set_option maxHeartbeats 8000000 in
set_option maxRecDepth 100000 in
theorem from_any {w : World} {ways : List (List Int)} {a : Option Addr} {cap : Nat} (hat : WaysAt w.heap.size w a ways) (hn : ways.length ≤ 1000) (hr : ∀ r ∈ ways, r.length ≤ 1000) (s but : Int) (hs : -9223372036854775808 ≤ s ∧ s ≤ 9223372036854775807) (hb : -9223372036854775808 ≤ but ∧ but ≤ 9223372036854775807) :
    Calls Try.prog 13 #[.slice a ways.length cap, .int .i64 s, .int .i64 but] w fun e w' => ∃ dv, e = .returned dv ∧ Below w.heap.size w w' ∧ w'.ownsRow w.heap.size 4 1 dv ways.length ((fromL ways s but).map Value.bool) := by
  obtain ⟨res, hres⟩ : ∃ r, r = fromL ways s but := ⟨_, rfl⟩
  rw [← hres]
  have HRES := Lib.hid hres
  have HAT := Lib.hid hat; have HR := Lib.hid hr
  obtain ⟨n, hnn⟩ : ∃ n, n = ways.length := ⟨_, rfl⟩
  have HN := Lib.hid hnn
  rw [← hnn] at hn ⊢
  clear hat hr hnn hres
  have hmb := run_make_row' (P := Try.prog) 33 4 (.bool false) 1 Try.underlying33 infoBool rfl .i64 .i64 n (by omega) (by omega)
  go_enter Try.func13, Try.ntmps13
  have hown := boolmade (w := w) (n := n) (by unfold maxLen; omega)
  have hbel := (Below.refl w.heap.size w).alloc (Nat.le_refl _) (.cells (madeCells #[.bool false] n) 4)
  by_cases hc : s = but ∨ s < 0 ∨ (n : Int) ≤ s
  · have hE := Lib.hid (show res = List.replicate n false from by rw [HRES.out]; unfold fromL; rw [if_pos (by rw [← HN.out]; exact hc), ← HN.out])
    have HOWN := Lib.hid hown; have HBEL := Lib.hid hbel
    clear hown hbel
    by_cases h1 : s = but
    · have q1 : (s == but) = true := by simp; exact h1
      clear hc
      go_wp2_with (fail)
      all_goals go_ret
      all_goals exact ⟨_, rfl, HBEL.out, by rw [hE.out]; exact HOWN.out⟩
    · have q1 : (s == but) = false := by simp; exact h1
      by_cases h2 : s < 0
      · clear hc
        go_wp2_with (fail)
        all_goals go_ret
        all_goals exact ⟨_, rfl, HBEL.out, by rw [hE.out]; exact HOWN.out⟩
      · have h3 : (n : Int) ≤ s := by omega
        clear hc
        go_wp2_with (fail)
        all_goals go_ret
        all_goals exact ⟨_, rfl, HBEL.out, by rw [hE.out]; exact HOWN.out⟩
  · have h1 : ¬ (s = but) := fun h => hc (.inl h)
    have h2 : 0 ≤ s := by omega
    have h3 : s < (n : Int) := by omega
    obtain ⟨k, rfl⟩ := Int.eq_ofNat_of_zero_le h2
    have q1 : ((k : Int) == but) = false := by simp; exact h1
    have hE := Lib.hid (show res = fromIter ways but n ((List.replicate n false).set k true) from by rw [HRES.out]; unfold fromL; rw [if_neg (by rw [← HN.out]; exact hc), ← HN.out, Int.toNat_natCast])
    have hkn : k < n := by omega
    have HOWN := Lib.hid hown; have HBEL := Lib.hid hbel
    clear hc h2 h1 hown hbel
    go_upto_region 4 with (fail)
    have hbz := alloc_at w (.cells (madeCells #[.bool false] n) 4 (0, 0)) w.heap.size rfl
    have f1 : (w.alloc (.cells (madeCells #[.bool false] n) 4)).frozen? ⟨w.heap.size, k, none⟩ = false := Lib.frozen_of_heap hbz k
    have f2 : w.heap.size < (w.alloc (.cells (madeCells #[.bool false] n) 4)).heap.size := by simp
    obtain ⟨g, hg⟩ : ∃ g, g = w.heap.size := ⟨_, rfl⟩
    have f3 : (w.alloc (.cells (madeCells #[.bool false] n) 4)).cell? ⟨w.heap.size, k, none⟩ = some (.bool false) := (bool_at HOWN.out (by rw [List.getElem?_replicate_of_lt hkn])).1
    have HF1 := Lib.hid (show FrAt w (w.alloc (.cells (madeCells #[.bool false] n) 4)) g n (List.replicate n false) from by rw [hg]; exact ⟨HBEL.out, HOWN.out⟩)
    clear HOWN HBEL hbz hmb
    generalize w.alloc (.cells (madeCells #[.bool false] n) 4) = w1 at *
    rw [← hg] at f1 f2 f3 ⊢
    clear hg
    go_upto_region 6 with (fail)
    have HF2 := Lib.hid (HF1.out.put hkn)
    generalize w1.setCell ⟨g, k, none⟩ (.bool true) = w2 at *
    clear HF1 f1 f2 f3
    obtain ⟨out0, ho0⟩ : ∃ o, o = (List.replicate n false).set k true := ⟨_, rfl⟩
    rw [← ho0] at HF2 hE
    clear ho0
    go_loopw [34] (fun iv wr => ∃ (i : Nat), i ≤ n ∧ iv = .int .i64 i ∧ FrAt w wr g n (fromIter ways but i out0)) (fun iv _ => n - (intOf iv).toNat)
    case atStart => exact ⟨0, Nat.zero_le _, rfl, HF2.out⟩
    case round =>
      rename World => wr
      obtain ⟨i, hi, rfl, hfr⟩ := hrel
      have HFR := Lib.hid hfr
      clear hfr HF2
      by_cases hin : i < n
      · have hii : (i : Int) < (n : Int) := by omega
        obtain ⟨outI, hoI⟩ : ∃ o, o = fromIter ways but i out0 := ⟨_, rfl⟩
        rw [← hoI] at HFR
        have HOI := Lib.hid hoI
        clear hoI
        go_upto_region 8 with (fail)
        go_loopw [38] (fun bv wx => ∃ (b : Nat), b ≤ n ∧ bv = .int .i64 b ∧ FrAt w wx g n ((ways.zipIdx.take b).foldl (fromRow n but) outI)) (fun bv _ => n - (intOf bv).toNat)
        case atStart => exact ⟨0, Nat.zero_le _, rfl, HFR.out⟩
        case round =>
          rename World => wx
          obtain ⟨b, hb, rfl, hfx⟩ := hrel
          have HFX := Lib.hid hfx
          clear hfx HFR
          by_cases hbn : b < n
          · have hbi : (b : Int) < (n : Int) := by omega
            obtain ⟨row, hrow⟩ : ∃ r, ways[b]? = some r := ⟨_, List.getElem?_eq_getElem (by rw [← HN.out]; exact hbn)⟩
            obtain ⟨wb, woff, cap2, rfl, hat⟩ := HAT.out (fun e => by rw [e] at hrow; cases hrow)
            have hrl : row.length ≤ 1000 := HR.out row (List.mem_of_getElem? hrow)
            have hatx := hat.below HFX.out.low
            obtain ⟨rv, hc, hrv⟩ := hatx.rows b row hrow
            have hwl := hatx.lt
            obtain ⟨ra, rc, rfl⟩ := hrv.slice
            have HRV := Lib.hid hrv; have HROW := Lib.hid hrow
            obtain ⟨outB, hoB⟩ : ∃ o, o = (ways.zipIdx.take b).foldl (fromRow n but) outI := ⟨_, rfl⟩
            rw [← hoB] at HFX
            have HOB := Lib.hid hoB
            clear hat hatx hrv hrow hoB
            go_upto_region 11 with (fail)
            clear hc
            go_loopw [45] (fun jv wy => ∃ (j : Nat), j ≤ row.length ∧ jv = .int .i64 j ∧ Below w.heap.size wx wy ∧ FrAt w wy g n ((row.take j).foldl (fromEdge n but b) outB)) (fun jv _ => row.length - (intOf jv).toNat)
            case atStart => exact ⟨0, Nat.zero_le _, rfl, Below.refl _ _, HFX.out⟩
            case round =>
              rename World => wy
              obtain ⟨j, hj, rfl, hby, hfy⟩ := hrel
              by_cases hjl : j < row.length
              · have hji : (j : Int) < (row.length : Int) := by omega
                obtain ⟨x, hx⟩ : ∃ x, row[j]? = some x := ⟨_, List.getElem?_eq_getElem hjl⟩
                obtain ⟨rb, ro, rc2, hrv2, hrb, hrbl, hrc⟩ := (HRV.out.below hby).get (by omega)
                have hrv1 : ra = some ⟨rb, ro, none⟩ ∧ rc = rc2 := by simp only [Value.slice.injEq] at hrv2; exact ⟨hrv2.1, hrv2.2.2⟩
                obtain ⟨rfl, rfl⟩ := hrv1
                have r1 := hrc j x hx
                have HBY := Lib.hid hby; have HFY := Lib.hid hfy
                have hol := hfy.ol
                obtain ⟨ob, hob⟩ : ∃ ob, ((row.take j).foldl (fromEdge n but b) outB)[b]? = some ob := ⟨_, List.getElem?_eq_getElem (by omega)⟩
                obtain ⟨t1, t2, t3, t4⟩ := bool_at hfy.row hob
                have HSTEP := Lib.hid (show (row.take (j + 1)).foldl (fromEdge n but b) outB = fromEdge n but b ((row.take j).foldl (fromEdge n but b) outB) x from foldl_take _ _ hx)
                have HOB2 := Lib.hid (show ((row.take j).foldl (fromEdge n but b) outB).getD b false = ob from by rw [List.getD_eq_getElem?_getD, hob]; rfl)
                clear hrc hrv2 hx hby hfy hol hob t2
                cases ob
                · have HS2 := Lib.hid (show fromEdge n but b ((row.take j).foldl (fromEdge n but b) outB) x = (row.take j).foldl (fromEdge n but b) outB from fromEdge_skip (fun c => by rw [HOB2.out] at c; exact absurd c.1 (by decide)))
                  go_wp2_with (fail)
                  all_goals exact ⟨⟨j + 1, by omega, by go_num, HBY.out, by rw [HSTEP.out, HS2.out]; exact HFY.out⟩, by simp [intOf]; omega⟩
                · by_cases hcx : 0 ≤ x ∧ x < (n : Int) ∧ x ≠ but
                  · obtain ⟨x0, x1, x2⟩ := hcx
                    obtain ⟨t, rfl⟩ := Int.eq_ofNat_of_zero_le x0
                    have htn : t < n := by omega
                    have q2 : ((t : Int) == but) = false := by simp; exact x2
                    have HS2 := Lib.hid (show fromEdge n but b ((row.take j).foldl (fromEdge n but b) outB) (t : Int) = ((row.take j).foldl (fromEdge n but b) outB).set t true from by rw [fromEdge_set ⟨HOB2.out, x0, x1, x2⟩, Int.toNat_natCast])
                    obtain ⟨obt, hobt⟩ : ∃ ob, ((row.take j).foldl (fromEdge n but b) outB)[t]? = some ob := ⟨_, List.getElem?_eq_getElem (by rw [HFY.out.ol]; exact htn)⟩
                    obtain ⟨s1, s2, s3, s4⟩ := bool_at HFY.out.row hobt
                    clear hobt
                    go_wp2_with (fail)
                    all_goals exact ⟨⟨j + 1, by omega, by go_num, below_put HBY.out s3 t _, by rw [HSTEP.out, HS2.out]; exact HFY.out.put htn⟩, by simp [intOf]; omega⟩
                  · have HS2 := Lib.hid (show fromEdge n but b ((row.take j).foldl (fromEdge n but b) outB) x = (row.take j).foldl (fromEdge n but b) outB from fromEdge_skip (fun c => hcx c.2))
                    by_cases x0 : 0 ≤ x
                    · by_cases x1 : x < (n : Int)
                      · have x2 : x = but := Classical.not_not.1 (fun h => hcx ⟨x0, x1, h⟩)
                        clear hcx
                        subst x2
                        go_wp2_with (fail)
                        all_goals exact ⟨⟨j + 1, by omega, by go_num, HBY.out, by rw [HSTEP.out, HS2.out]; exact HFY.out⟩, by simp [intOf]; omega⟩
                      · clear hcx
                        go_wp2_with (fail)
                        all_goals exact ⟨⟨j + 1, by omega, by go_num, HBY.out, by rw [HSTEP.out, HS2.out]; exact HFY.out⟩, by simp [intOf]; omega⟩
                    · clear hcx
                      go_wp2_with (fail)
                      all_goals exact ⟨⟨j + 1, by omega, by go_num, HBY.out, by rw [HSTEP.out, HS2.out]; exact HFY.out⟩, by simp [intOf]; omega⟩
              · obtain rfl : j = row.length := by omega
                have HFY := Lib.hid hfy
                clear hfy hby
                rw [List.take_length] at HFY
                have HNX := Lib.hid (show (ways.zipIdx.take (b + 1)).foldl (fromRow n but) outI = row.foldl (fromEdge n but b) outB from by
                  rw [HOB.out]
                  exact foldl_take _ _ (zip_idx HROW.out))
                go_wp2_with (fail)
                exact ⟨⟨b + 1, by omega, by go_num, by rw [HNX.out]; exact HFY.out⟩, by simp [intOf]; omega⟩
          · obtain rfl : b = n := by omega
            have HNX := Lib.hid (show fromIter ways but (i + 1) out0 = (ways.zipIdx.take b).foldl (fromRow b but) outI from by
              show fromRound ways but (fromIter ways but i out0) = _
              rw [← HOI.out, HN.out]
              unfold fromRound
              rw [List.take_of_length_le (by simp)])
            go_wp2_with (fail)
            exact ⟨⟨i + 1, by omega, by go_num, by rw [HNX.out]; exact HFX.out⟩, by simp [intOf]; omega⟩
      · obtain rfl : i = n := by omega
        go_wp2_with (fail)
        go_ret
        exact ⟨_, rfl, HFR.out.low, by rw [hE.out]; exact HFR.out.row⟩
end Go.Proofs.Ytipongpgmbhpkaa
