/-
  The checker: globals.
-/
import Derived.Test.YtffgioifjdpajaaGreatDoorChkO
namespace Go.Proofs.YtffgioifjdpajaaGreatDoor
open Go.ChangeShapes Go.WideShapes Go.ChangeAt Go.RowKit
set_option linter.unusedVariables false

theorem own5 {w : World} {b : Nat} {c0 c1 c2 c3 c4 : Value} {t : TypeId} (h : w.heap[b]? = some (.cells #[c0, c1, c2, c3, c4] t (0, 0))) :
    w.cell? ⟨b, 0, none⟩ = some c0 ∧ w.cell? ⟨b, 1, none⟩ = some c1 ∧ w.cell? ⟨b, 2, none⟩ = some c2 ∧ w.cell? ⟨b, 3, none⟩ = some c3 ∧ w.cell? ⟨b, 4, none⟩ = some c4 := by
  refine ⟨?_, ?_, ?_, ?_, ?_⟩ <;> (rw [Lib.cell_of_heap h]; rfl)
def stepG (g : Gl) (i : Int) (c : Ck) : Ck := { ((c.unless (!c.known g.name) 20 g.line g.col).unless (decide (i < 64)) 3 g.line g.col) with gm := (g.name, some i) :: ((c.unless (!c.known g.name) 20 g.line g.col).unless (decide (i < 64)) 3 g.line g.col).gm }
theorem ckGlobals_snoc : ∀ (l : List Gl) (g : Gl) (i : Int) (k : Ck), ckGlobals (l ++ [g]) i k = stepG g (i + l.length) (ckGlobals l i k)
  | [], g, i, k => by simp [ckGlobals, stepG]
  | a :: l, g, i, k => by
    simp only [List.cons_append, ckGlobals]
    rw [ckGlobals_snoc l g (i + 1)]
    congr 1
    simp; omega
def gbAt (l : List Gl) (i : Nat) (k : Ck) : Ck := ckGlobals (l.take i) 0 k
theorem gbAt_succ {l : List Gl} {i : Nat} (h : i < l.length) (k : Ck) : gbAt l (i + 1) k = stepG l[i] i (gbAt l i k) := by
  unfold gbAt; rw [List.take_succ_eq_append_getElem h, ckGlobals_snoc]
  congr 1
  rw [List.length_take]; omega
theorem gbAt_all (l : List Gl) (k : Ck) : gbAt l l.length k = ckGlobals l 0 k := by unfold gbAt; rw [List.take_length]
theorem stepG_same (g : Gl) (i : Int) (c : Ck) : (stepG g i c).gs = c.gs ∧ (stepG g i c).fs = c.fs ∧ (stepG g i c).fm = c.fm ∧ (stepG g i c).lm = c.lm ∧ (stepG g i c).gm = (g.name, some i) :: c.gm := by
  have h := (same_unless c (!c.known g.name) 20 g.line g.col).trans (same_unless _ (decide (i < 64)) 3 g.line g.col)
  exact ⟨h.1, h.2.1, h.2.2.2.1, h.2.2.2.2, by show _ :: _ = _; rw [h.2.2.1]⟩
theorem gbAt_same (l : List Gl) (k : Ck) : ∀ i, i ≤ l.length → (gbAt l i k).gs = k.gs ∧ (gbAt l i k).gm.length = k.gm.length + i
  | 0, _ => ⟨rfl, rfl⟩
  | i + 1, h => by
    obtain ⟨h1, h2⟩ := gbAt_same l k i (by omega)
    obtain ⟨s1, _, _, _, s5⟩ := stepG_same l[i] i (gbAt l i k)
    rw [gbAt_succ (by omega)]
    exact ⟨s1.trans h1, by rw [s5]; simp [h2]; omega⟩
/-- The globals' map has turned. -/
theorem Checks.putG {base C G F : Nat} {lv : Value} {k : Ck} {w w' : World} {x : List UInt8} {j : Nat} (h : Checks base C G F lv k w) (hg : w.grownBy w' (some G)) (hj : j < k.gs.length) (hm : NM 3 w' G ((x, some (j : Int)) :: k.gm)) : Checks base C G F lv { k with gm := (x, some (j : Int)) :: k.gm } w' := by
  obtain ⟨⟨gv, fv, hb, h1, h2⟩, h3, h4, h5, h6, h7, h8, h9⟩ := h
  have hCG : C ≠ G := (map_ne h3 hb).symm
  have hcl := (Array.getElem?_eq_some_iff.1 hb).1
  have hk : ∀ g, g < base → g < w.heap.size → ∀ o, w'.cell? ⟨g, o, none⟩ = w.cell? ⟨g, o, none⟩ := fun g hg' hl o => World.cell?_of_block (hg.block g hl (by have := h6.2.1; simp; omega))
  refine ⟨⟨gv, fv, (hg.block C hcl (by simpa using hCG)).trans hb, h1.keep hg.size (fun g hg _ => hg) hk, h2.keep hg.size (fun g hg _ => hg) hk⟩, hm, h4.keep (hg.block F h4.lt (by simpa using h7.symm)), ?_, h6, h7, fun y i hy => ?_, h9⟩
  · rcases h5 with h5 | ⟨L, rfl, h5⟩
    · exact .inl h5
    · exact .inr ⟨L, rfl, h5.keep (hg.block L h5.lt (by simpa using (h6.2.2.2 L rfl).2.1))⟩
  · simp only [look] at hy
    split at hy
    · cases hy; exact ⟨j, rfl, hj⟩
    · exact h8 y i hy
theorem wf_nat {j : Nat} (h : j ≤ 4611686018427387904) : (Lit.int .i64 (j : Int)).wf = true := WalkArith.wf_i64 (by omega)
set_option maxHeartbeats 8000000 in
set_option maxRecDepth 100000 in
theorem globals_ck {base C G F : Nat} {lv : Value} {k : Ck} {w : World} (h : Checks base C G F lv k w) (hgm : k.gm = []) (hnm : ∀ i (hi : i < k.gs.length), (k.gs[i]).name.length ≤ 65536) :
    Calls Tryz.prog 20 #[.pointer (some ⟨C, 0, none⟩)] w (fun e w' => e = .returned (.tuple #[]) ∧ Turn (fun q => q = C ∨ q = G) w w' ∧ Checks base C G F lv (ckGlobals k.gs 0 k) w') := by
  obtain ⟨gv, fv, hlt, hgl, hfn, c0, c1, c2, c3, c4, _, _, _, _⟩ := h.open
  obtain ⟨a, cap, rfl, hmax, hrow⟩ := gl_cells hgl
  have HC := Lib.hid h; have HROW := Lib.hid hrow; have HNM := Lib.hid hnm; have HGM := Lib.hid hgm
  have hlow := h.low.1
  have hlowG := h.low.2.1
  have HSAME := Lib.hid (gbAt_same k.gs k)
  clear h hgl hfn hrow hnm hgm
  generalize hgs : k.gs = gs at *
  have HGS := Lib.hid hgs
  clear hgs
  go_enter Tryz.func20, Tryz.ntmps20
  go_wp2_with (fail)
  go_loopw [10] (fun i wr => ∃ j : Nat, j ≤ gs.length ∧ i = .int .i64 j ∧ Turn (fun q => q = C ∨ q = G) w wr ∧ Checks base C G F lv (gbAt gs j k) wr) (fun i _ => gs.length - (intOf i).toNat)
  case atStart => exact ⟨0, Nat.zero_le _, rfl, Turn.refl _ _, HC.out⟩
  case round =>
    obtain ⟨j, hj, rfl, htr, hcr⟩ := hrel
    have HTR := Lib.hid htr; have HCR := Lib.hid hcr
    have hltr : C < wr.heap.size := by obtain ⟨_, _, q, _⟩ := hcr.open; exact q
    have hltG : G < wr.heap.size := hcr.gm.lt
    by_cases hjl : j < gs.length
    · obtain ⟨g, o, rfl, hg, hgl, hcap, hcl⟩ := HROW.out j hjl
      have hg' : g < base := hg
      have hold : ∀ q, q < 5 → wr.cell? ⟨g, o + j * 5 + q, none⟩ = (cellsG gs[j])[q]? := fun q hq => (htr.cell hgl (by omega) _).trans (hcl q hq)
      have hgr : g < wr.heap.size := Nat.lt_of_lt_of_le hgl htr.size
      have HSUC := Lib.hid (gbAt_succ hjl k)
      have HLEN := Lib.hid (show (gs[j]).name.length ≤ maxLen by have := HNM.out j hjl; unfold maxLen; omega)
      obtain ⟨hs1, hs2⟩ := HSAME.out j hj
      have HJ := Lib.hid (show j < (gbAt gs j k).gs.length by rw [hs1]; exact hjl)
      have HL := Lib.hid (show (gbAt gs j k).gm.length < maxLen by rw [hs2, HGM.out]; simp; unfold maxLen; omega)
      have HWF := Lib.hid (wf_nat (j := j) (by omega))
      generalize gs[j] = x at *
      generalize gbAt gs j k = kj at *
      obtain ⟨name, hold_, size, line, col⟩ := x
      have r0 : wr.cell? ⟨g, o + j * 5, none⟩ = some (.string ⟨name.toArray⟩) := hold 0 (by decide)
      have r1 : wr.cell? ⟨g, o + j * 5 + 1, none⟩ = some (.int .i64 hold_) := hold 1 (by decide)
      have r2 : wr.cell? ⟨g, o + j * 5 + 2, none⟩ = some (.int .i64 size) := hold 2 (by decide)
      have r3 : wr.cell? ⟨g, o + j * 5 + 3, none⟩ = some (.int .i64 line) := hold 3 (by decide)
      have r4 : wr.cell? ⟨g, o + j * 5 + 4, none⟩ = some (.int .i64 col) := hold 4 (by decide)
      clear htr hcr hold hcl hs1 hs2
      go_upto_region 3 with (fail)
      have hC := HCR.out.alloc (.cells #[.string ⟨name.toArray⟩, .int .i64 hold_, .int .i64 size, .int .i64 line, .int .i64 col] 41)
      have hB := alloc_at wr (.cells #[.string ⟨name.toArray⟩, .int .i64 hold_, .int .i64 size, .int .i64 line, .int .i64 col] 41) _ rfl
      have hT := HTR.out.alloc (.cells #[.string ⟨name.toArray⟩, .int .i64 hold_, .int .i64 size, .int .i64 line, .int .i64 col] 41)
      generalize wr.alloc (.cells #[.string ⟨name.toArray⟩, .int .i64 hold_, .int .i64 size, .int .i64 line, .int .i64 col] 41) = W at *
      obtain ⟨d0, d1, d2, d3, d4⟩ := own5 hB
      have hsz : wr.heap.size < W.heap.size := (Array.getElem?_eq_some_iff.1 hB).1
      have HCW := Lib.hid hC; have HTW := Lib.hid hT; have HBW := Lib.hid hB
      clear hC hT hB r0 r1 r2 r3 r4
      go_wp2_with (fail)
      refine (ckknown_any HCW.out name HLEN.out).mono ?_
      rintro e w3 ⟨rfl, rfl⟩
      rcases Bool.eq_false_or_eq_true (kj.known name) with hb1 | hb1 <;> by_cases hsm : j < 64
      · have b1 : kj.known name = true := hb1
        have b2 : decide ((64 : Int) ≤ j) = false := by simp; omega
        have b2' : decide (64 ≤ j) = false := by simp; omega
        have HST := Lib.hid (show stepG ⟨name, hold_, size, line, col⟩ j kj = { (kj.fail 20 line col) with gm := (name, some (j : Int)) :: (kj.fail 20 line col).gm } by
          have q1 : decide ((j : Int) < 64) = true := by simp; omega
          unfold stepG Ck.unless; rw [b1, q1]; rfl)
        clear hb1 hsm
        go_wp2_with (fail)
        refine (ckfail_any HCW.out 20 line col).mono ?_
        rintro e w4 ⟨rfl, ht4, hc4⟩
        have hb4 := (ht4.block _ hsz (by omega)).trans HBW.out
        obtain ⟨e40, e41, e42, e43, e44⟩ := own5 hb4
        have hsz4 : wr.heap.size < w4.heap.size := (Array.getElem?_eq_some_iff.1 hb4).1
        have HT4 := Lib.hid (HTW.out.trans (ht4.mono (fun _ q => .inl q))); have HC4 := Lib.hid hc4; have HB4 := Lib.hid hb4
        clear ht4 hc4 hb4
        go_upto_region 7 with (fail)
        have hC := HC4.out
        have HLK := Lib.hid (show (kj.fail 20 line col).gm.length < maxLen by rw [(same_fail kj 20 line col).2.2.1]; exact HL.out); have HJK := Lib.hid (show j < (kj.fail 20 line col).gs.length by rw [(same_fail kj 20 line col).1]; exact HJ.out)
        obtain ⟨w9, hrun, hnm9, hgr9⟩ := (hC.gm.keep (w' := w4.drew) rfl).put wInt uMapI HLK.out HLEN.out HWF.out
        obtain ⟨gv9, fv9, hltC, _, _, _, _, c29, _, _, _, _, _, _⟩ := hC.open
        have HN9 := Lib.hid hnm9; have HG9 := Lib.hid hgr9
        clear hC hnm9 hgr9 b1 b2 b2'
        go_region
        go_wp2_with (fail)
        go_roundw
        case rel => exact ⟨j + 1, by omega, by go_num, HT4.out.drew.trans (Turn.grown HG9.out (fun q hq => by cases hq; exact .inr rfl)), by rw [HSUC.out, HST.out]; exact HC4.out.drew.putG HG9.out HJK.out HN9.out⟩
        case measure => simp [intOf]; omega
      · have b1 : kj.known name = true := hb1
        have b2 : decide ((64 : Int) ≤ j) = true := by simp; omega
        have b2' : decide (64 ≤ j) = true := by simp; omega
        have HST := Lib.hid (show stepG ⟨name, hold_, size, line, col⟩ j kj = { ((kj.fail 20 line col).fail 3 line col) with gm := (name, some (j : Int)) :: ((kj.fail 20 line col).fail 3 line col).gm } by
          have q1 : decide ((j : Int) < 64) = false := by simp; omega
          unfold stepG Ck.unless; rw [b1, q1]; rfl)
        clear hb1 hsm
        go_wp2_with (fail)
        refine (ckfail_any HCW.out 20 line col).mono ?_
        rintro e w4 ⟨rfl, ht4, hc4⟩
        have hb4 := (ht4.block _ hsz (by omega)).trans HBW.out
        obtain ⟨e40, e41, e42, e43, e44⟩ := own5 hb4
        have hsz4 : wr.heap.size < w4.heap.size := (Array.getElem?_eq_some_iff.1 hb4).1
        have HT4 := Lib.hid (HTW.out.trans (ht4.mono (fun _ q => .inl q))); have HC4 := Lib.hid hc4; have HB4 := Lib.hid hb4
        clear ht4 hc4 hb4
        go_wp2_with (fail)
        refine (ckfail_any HC4.out 3 line col).mono ?_
        rintro e w5 ⟨rfl, ht5, hc5⟩
        have hb5 := (ht5.block _ hsz4 (by omega)).trans HB4.out
        obtain ⟨e50, e51, e52, e53, e54⟩ := own5 hb5
        have hsz5 : wr.heap.size < w5.heap.size := (Array.getElem?_eq_some_iff.1 hb5).1
        have HT5 := Lib.hid (HT4.out.trans (ht5.mono (fun _ q => .inl q))); have HC5 := Lib.hid hc5; have HB5 := Lib.hid hb5
        clear ht5 hc5 hb5
        go_upto_region 7 with (fail)
        have hC := HC5.out
        have HLK := Lib.hid (show ((kj.fail 20 line col).fail 3 line col).gm.length < maxLen by rw [((same_fail kj 20 line col).trans (same_fail _ 3 line col)).2.2.1]; exact HL.out); have HJK := Lib.hid (show j < ((kj.fail 20 line col).fail 3 line col).gs.length by rw [((same_fail kj 20 line col).trans (same_fail _ 3 line col)).1]; exact HJ.out)
        obtain ⟨w9, hrun, hnm9, hgr9⟩ := (hC.gm.keep (w' := w5.drew) rfl).put wInt uMapI HLK.out HLEN.out HWF.out
        obtain ⟨gv9, fv9, hltC, _, _, _, _, c29, _, _, _, _, _, _⟩ := hC.open
        have HN9 := Lib.hid hnm9; have HG9 := Lib.hid hgr9
        clear hC hnm9 hgr9 b1 b2 b2'
        go_region
        go_wp2_with (fail)
        go_roundw
        case rel => exact ⟨j + 1, by omega, by go_num, HT5.out.drew.trans (Turn.grown HG9.out (fun q hq => by cases hq; exact .inr rfl)), by rw [HSUC.out, HST.out]; exact HC5.out.drew.putG HG9.out HJK.out HN9.out⟩
        case measure => simp [intOf]; omega
      · have b1 : kj.known name = false := hb1
        have b2 : decide ((64 : Int) ≤ j) = false := by simp; omega
        have b2' : decide (64 ≤ j) = false := by simp; omega
        have HST := Lib.hid (show stepG ⟨name, hold_, size, line, col⟩ j kj = { (kj) with gm := (name, some (j : Int)) :: (kj).gm } by
          have q1 : decide ((j : Int) < 64) = true := by simp; omega
          unfold stepG Ck.unless; rw [b1, q1]; rfl)
        clear hb1 hsm
        go_upto_region 7 with (fail)
        have hC := HCW.out
        have HLK := HL; have HJK := HJ
        obtain ⟨w9, hrun, hnm9, hgr9⟩ := (hC.gm.keep (w' := w3.drew) rfl).put wInt uMapI HLK.out HLEN.out HWF.out
        obtain ⟨gv9, fv9, hltC, _, _, _, _, c29, _, _, _, _, _, _⟩ := hC.open
        have HN9 := Lib.hid hnm9; have HG9 := Lib.hid hgr9
        clear hC hnm9 hgr9 b1 b2 b2'
        go_region
        go_wp2_with (fail)
        go_roundw
        case rel => exact ⟨j + 1, by omega, by go_num, HTW.out.drew.trans (Turn.grown HG9.out (fun q hq => by cases hq; exact .inr rfl)), by rw [HSUC.out, HST.out]; exact HCW.out.drew.putG HG9.out HJK.out HN9.out⟩
        case measure => simp [intOf]; omega
      · have b1 : kj.known name = false := hb1
        have b2 : decide ((64 : Int) ≤ j) = true := by simp; omega
        have b2' : decide (64 ≤ j) = true := by simp; omega
        have HST := Lib.hid (show stepG ⟨name, hold_, size, line, col⟩ j kj = { ((kj).fail 3 line col) with gm := (name, some (j : Int)) :: ((kj).fail 3 line col).gm } by
          have q1 : decide ((j : Int) < 64) = false := by simp; omega
          unfold stepG Ck.unless; rw [b1, q1]; rfl)
        clear hb1 hsm
        go_wp2_with (fail)
        refine (ckfail_any HCW.out 3 line col).mono ?_
        rintro e w4 ⟨rfl, ht4, hc4⟩
        have hb4 := (ht4.block _ hsz (by omega)).trans HBW.out
        obtain ⟨e40, e41, e42, e43, e44⟩ := own5 hb4
        have hsz4 : wr.heap.size < w4.heap.size := (Array.getElem?_eq_some_iff.1 hb4).1
        have HT4 := Lib.hid (HTW.out.trans (ht4.mono (fun _ q => .inl q))); have HC4 := Lib.hid hc4; have HB4 := Lib.hid hb4
        clear ht4 hc4 hb4
        go_upto_region 7 with (fail)
        have hC := HC4.out
        have HLK := Lib.hid (show ((kj).fail 3 line col).gm.length < maxLen by rw [(same_fail kj 3 line col).2.2.1]; exact HL.out); have HJK := Lib.hid (show j < ((kj).fail 3 line col).gs.length by rw [(same_fail kj 3 line col).1]; exact HJ.out)
        obtain ⟨w9, hrun, hnm9, hgr9⟩ := (hC.gm.keep (w' := w4.drew) rfl).put wInt uMapI HLK.out HLEN.out HWF.out
        obtain ⟨gv9, fv9, hltC, _, _, _, _, c29, _, _, _, _, _, _⟩ := hC.open
        have HN9 := Lib.hid hnm9; have HG9 := Lib.hid hgr9
        clear hC hnm9 hgr9 b1 b2 b2'
        go_region
        go_wp2_with (fail)
        go_roundw
        case rel => exact ⟨j + 1, by omega, by go_num, HT4.out.drew.trans (Turn.grown HG9.out (fun q hq => by cases hq; exact .inr rfl)), by rw [HSUC.out, HST.out]; exact HC4.out.drew.putG HG9.out HJK.out HN9.out⟩
        case measure => simp [intOf]; omega
    · obtain rfl : j = gs.length := by omega
      have HALL := Lib.hid (gbAt_all gs k)
      rw [HALL.out] at HCR
      clear htr hcr
      go_wp2_with (fail)
      go_end0
      exact ⟨rfl, HTR.out, HCR.out⟩
end Go.Proofs.YtffgioifjdpajaaGreatDoor
