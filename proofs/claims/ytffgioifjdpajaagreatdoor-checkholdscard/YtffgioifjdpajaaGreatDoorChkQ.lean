/-
  The checker: functions.
-/
import Derived.Test.YtffgioifjdpajaaGreatDoorChkP
namespace Go.Proofs.YtffgioifjdpajaaGreatDoor
open Go.ChangeShapes Go.WideShapes Go.ChangeAt Go.RowKit
set_option linter.unusedVariables false

def okFn (f : Fn) (i : Int) : Bool := decide (i < 256) && decide (f.params.length ≤ 6)
def stepF (f : Fn) (i : Int) (c : Ck) : Ck := { ((c.unless (!c.known f.name) 20 f.line f.col).unless (okFn f i) 3 f.line f.col) with fm := (f.name, some i) :: ((c.unless (!c.known f.name) 20 f.line f.col).unless (okFn f i) 3 f.line f.col).fm }
theorem ckFuncs_snoc : ∀ (l : List Fn) (g : Fn) (i : Int) (k : Ck), ckFuncs (l ++ [g]) i k = stepF g (i + l.length) (ckFuncs l i k)
  | [], g, i, k => by simp [ckFuncs, stepF, okFn]
  | a :: l, g, i, k => by
    simp only [List.cons_append, ckFuncs]
    rw [ckFuncs_snoc l g (i + 1)]
    congr 1
    simp; omega
def fnsAt (l : List Fn) (i : Nat) (k : Ck) : Ck := ckFuncs (l.take i) 0 k
theorem fnsAt_succ {l : List Fn} {i : Nat} (h : i < l.length) (k : Ck) : fnsAt l (i + 1) k = stepF l[i] i (fnsAt l i k) := by
  unfold fnsAt; rw [List.take_succ_eq_append_getElem h, ckFuncs_snoc]
  congr 1
  rw [List.length_take]; omega
theorem fnsAt_all (l : List Fn) (k : Ck) : fnsAt l l.length k = ckFuncs l 0 k := by unfold fnsAt; rw [List.take_length]
theorem stepF_same (g : Fn) (i : Int) (c : Ck) : (stepF g i c).gs = c.gs ∧ (stepF g i c).fs = c.fs ∧ (stepF g i c).gm = c.gm ∧ (stepF g i c).lm = c.lm ∧ (stepF g i c).fm = (g.name, some i) :: c.fm := by
  have h := (same_unless c (!c.known g.name) 20 g.line g.col).trans (same_unless _ (okFn g i) 3 g.line g.col)
  exact ⟨h.1, h.2.1, h.2.2.1, h.2.2.2.2, by show _ :: _ = _; rw [h.2.2.2.1]⟩
theorem fnsAt_same (l : List Fn) (k : Ck) : ∀ i, i ≤ l.length → (fnsAt l i k).fs = k.fs ∧ (fnsAt l i k).fm.length = k.fm.length + i
  | 0, _ => ⟨rfl, rfl⟩
  | i + 1, h => by
    obtain ⟨h1, h2⟩ := fnsAt_same l k i (by omega)
    obtain ⟨_, s1, _, _, s5⟩ := stepF_same l[i] i (fnsAt l i k)
    rw [fnsAt_succ (by omega)]
    exact ⟨s1.trans h1, by rw [s5]; simp [h2]; omega⟩
/-- The functions' map has turned. -/
theorem Checks.putF {base C G F : Nat} {lv : Value} {k : Ck} {w w' : World} {x : List UInt8} {j : Nat} (h : Checks base C G F lv k w) (hg : w.grownBy w' (some F)) (hj : j < k.fs.length) (hm : NM 3 w' F ((x, some (j : Int)) :: k.fm)) : Checks base C G F lv { k with fm := (x, some (j : Int)) :: k.fm } w' := by
  obtain ⟨⟨gv, fv, hb, h1, h2⟩, h3, h4, h5, h6, h7, h8, h9⟩ := h
  have hCF : C ≠ F := (map_ne h4 hb).symm
  have hcl := (Array.getElem?_eq_some_iff.1 hb).1
  have hk : ∀ g, g < base → g < w.heap.size → ∀ o, w'.cell? ⟨g, o, none⟩ = w.cell? ⟨g, o, none⟩ := fun g hg' hl o => World.cell?_of_block (hg.block g hl (by have := h6.2.2.1; simp; omega))
  refine ⟨⟨gv, fv, (hg.block C hcl (by simpa using hCF)).trans hb, h1.keep hg.size (fun g hg _ => hg) hk, h2.keep hg.size (fun g hg _ => hg) hk⟩, h3.keep (hg.block G h3.lt (by simpa using h7)), hm, ?_, h6, h7, h8, fun y i hy => ?_⟩
  · rcases h5 with h5 | ⟨L, rfl, h5⟩
    · exact .inl h5
    · exact .inr ⟨L, rfl, h5.keep (hg.block L h5.lt (by simpa using (h6.2.2.2 L rfl).2.2))⟩
  · simp only [look] at hy
    split at hy
    · cases hy; exact ⟨j, rfl, hj⟩
    · exact h9 y i hy
/-- Functions, cell by cell. -/
theorem fn_cells {w : World} {S : Nat → Prop} {fs : List Fn} {fv : Value} (h : FnsAt w S fs fv) : ∃ a cap, fv = .slice a fs.length cap ∧ fs.length ≤ 4611686018427387904 ∧ (∀ j (hj : j < fs.length), ∃ g o pa pc ba bn bc, a = some ⟨g, o, none⟩ ∧ S g ∧ g < w.heap.size ∧ fs.length ≤ cap ∧ StrsAt w S fs[j].params (.slice pa fs[j].params.length pc) ∧ BodyAt w S fs[j].body (.slice ba bn bc) ∧ ∀ i, i < 5 → w.cell? ⟨g, o + j * 5 + i, none⟩ = (cellsF fs[j].name (.slice pa fs[j].params.length pc) (.slice ba bn bc) fs[j].line fs[j].col)[i]?) := by
  rcases h with ⟨rfl, a, cap, rfl⟩ | ⟨_, g, o, cap, rfl, hS, hlt, h1, h2, h3⟩
  · exact ⟨a, cap, rfl, by simp, fun j hj => by simp at hj⟩
  · refine ⟨_, cap, rfl, h2, fun j hj => ?_⟩
    obtain ⟨cs, ⟨pv, bv, rfl, hp, hb⟩, hc⟩ := h3 j fs[j] (List.getElem?_eq_getElem hj)
    have e1 : ∃ pa pc, pv = .slice pa fs[j].params.length pc := by
      rcases hp with ⟨hp, a, cap', rfl⟩ | ⟨_, g', o', cap', rfl, _⟩
      · exact ⟨_, _, by rw [hp]; rfl⟩
      · exact ⟨_, _, rfl⟩
    obtain ⟨pa, pc, rfl⟩ := e1
    obtain ⟨ba, bn, bc, rfl⟩ := hb.slice
    exact ⟨g, o, pa, pc, ba, bn, bc, rfl, hS, hlt, h1, hp, hb, fun i hi => by rw [show o + j * 5 + i = o + (5 * j + i) by omega]; exact hc i hi⟩
set_option maxHeartbeats 8000000 in
set_option maxRecDepth 100000 in
theorem functions_ck {base C G F : Nat} {lv : Value} {k : Ck} {w : World} (h : Checks base C G F lv k w) (hfm : k.fm = []) (hnm : ∀ i (hi : i < k.fs.length), (k.fs[i]).name.length ≤ 65536) :
    Calls Tryz.prog 21 #[.pointer (some ⟨C, 0, none⟩)] w (fun e w' => e = .returned (.tuple #[]) ∧ Turn (fun q => q = C ∨ q = F) w w' ∧ Checks base C G F lv (ckFuncs k.fs 0 k) w') := by
  obtain ⟨gv, fv, hlt, hgl, hfn, c0, c1, c2, c3, c4, _, _, _, _⟩ := h.open
  obtain ⟨a, cap, rfl, hmax, hrow⟩ := fn_cells hfn
  have HC := Lib.hid h; have HROW := Lib.hid hrow; have HNM := Lib.hid hnm; have HFM := Lib.hid hfm
  have hlow := h.low.1
  have hlowF := h.low.2.2.1
  have HSAME := Lib.hid (fnsAt_same k.fs k)
  clear h hgl hfn hrow hnm hfm
  generalize hfs : k.fs = fs at *
  have HFS := Lib.hid hfs
  clear hfs
  go_enter Tryz.func21, Tryz.ntmps21
  go_wp2_with (fail)
  go_loopw [10] (fun i wr => ∃ j : Nat, j ≤ fs.length ∧ i = .int .i64 j ∧ Turn (fun q => q = C ∨ q = F) w wr ∧ Checks base C G F lv (fnsAt fs j k) wr) (fun i _ => fs.length - (intOf i).toNat)
  case atStart => exact ⟨0, Nat.zero_le _, rfl, Turn.refl _ _, HC.out⟩
  case round =>
    obtain ⟨j, hj, rfl, htr, hcr⟩ := hrel
    have HTR := Lib.hid htr; have HCR := Lib.hid hcr
    have hltr : C < wr.heap.size := by obtain ⟨_, _, q, _⟩ := hcr.open; exact q
    by_cases hjl : j < fs.length
    · obtain ⟨g, o, pa, pc, ba, bn, bc, rfl, hg, hgl, hcap, hps, hbs, hcl⟩ := HROW.out j hjl
      have hg' : g < base := hg
      have hold : ∀ q, q < 5 → wr.cell? ⟨g, o + j * 5 + q, none⟩ = (cellsF fs[j].name (.slice pa fs[j].params.length pc) (.slice ba bn bc) fs[j].line fs[j].col)[q]? := fun q hq => (htr.cell hgl (by omega) _).trans (hcl q hq)
      have hgr : g < wr.heap.size := Nat.lt_of_lt_of_le hgl htr.size
      have HSUC := Lib.hid (fnsAt_succ hjl k)
      have HLEN := Lib.hid (show (fs[j]).name.length ≤ maxLen by have := HNM.out j hjl; unfold maxLen; omega)
      obtain ⟨hs1, hs2⟩ := HSAME.out j hj
      have HJ := Lib.hid (show j < (fnsAt fs j k).fs.length by rw [hs1]; exact hjl)
      have HL := Lib.hid (show (fnsAt fs j k).fm.length < maxLen by rw [hs2, HFM.out]; simp; unfold maxLen; omega)
      have HWF := Lib.hid (wf_nat (j := j) (by omega))
      clear hps hbs
      generalize fs[j] = x at *
      generalize fnsAt fs j k = kj at *
      obtain ⟨name, params, body, line, col⟩ := x
      have r0 : wr.cell? ⟨g, o + j * 5, none⟩ = some (.string ⟨name.toArray⟩) := hold 0 (by decide)
      have r1 : wr.cell? ⟨g, o + j * 5 + 1, none⟩ = some (.slice pa params.length pc) := hold 1 (by decide)
      have r2 : wr.cell? ⟨g, o + j * 5 + 2, none⟩ = some (.slice ba bn bc) := hold 2 (by decide)
      have r3 : wr.cell? ⟨g, o + j * 5 + 3, none⟩ = some (.int .i64 line) := hold 3 (by decide)
      have r4 : wr.cell? ⟨g, o + j * 5 + 4, none⟩ = some (.int .i64 col) := hold 4 (by decide)
      clear htr hcr hold hcl hs1 hs2
      have HOKF := Lib.hid (show okFn ⟨name, params, body, line, col⟩ j = (decide ((j : Int) < 256) && decide (params.length ≤ 6)) from rfl)
      generalize params.length = pn at *
      go_upto_region 3 with (fail)
      have hC := HCR.out.alloc (.cells #[.string ⟨name.toArray⟩, .slice pa pn pc, .slice ba bn bc, .int .i64 line, .int .i64 col] 46)
      have hB := alloc_at wr (.cells #[.string ⟨name.toArray⟩, .slice pa pn pc, .slice ba bn bc, .int .i64 line, .int .i64 col] 46) _ rfl
      have hT := HTR.out.alloc (.cells #[.string ⟨name.toArray⟩, .slice pa pn pc, .slice ba bn bc, .int .i64 line, .int .i64 col] 46)
      generalize wr.alloc (.cells #[.string ⟨name.toArray⟩, .slice pa pn pc, .slice ba bn bc, .int .i64 line, .int .i64 col] 46) = W at *
      obtain ⟨d0, d1, d2, d3, d4⟩ := own5 hB
      have hsz : wr.heap.size < W.heap.size := (Array.getElem?_eq_some_iff.1 hB).1
      have HCW := Lib.hid hC; have HTW := Lib.hid hT; have HBW := Lib.hid hB
      clear hC hT hB r0 r1 r2 r3 r4
      go_wp2_with (fail)
      refine (ckknown_any HCW.out name HLEN.out).mono ?_
      rintro e w3 ⟨rfl, rfl⟩
      have hmo : (j < 256 ∧ pn ≤ 6) ∨ 256 ≤ j ∨ (j < 256 ∧ 6 < pn) := by omega
      rcases Bool.eq_false_or_eq_true (kj.known name) with hb1 | hb1 <;> rcases hmo with hmo | hmo | hmo
      · have b1 : kj.known name = true := hb1
        have b2 : decide ((256 : Int) ≤ j) = false := by simp; omega
        have b2' : decide (256 ≤ j) = false := by simp; omega
        have b3 : decide ((6 : Int) < pn) = false := by simp; omega
        have b3' : decide (6 < pn) = false := by simp; omega
        have HST := Lib.hid (show stepF ⟨name, params, body, line, col⟩ j kj = { (kj.fail 20 line col) with fm := (name, some (j : Int)) :: (kj.fail 20 line col).fm } by
          have q1 : (decide ((j : Int) < 256) && decide (pn ≤ 6)) = true := by simp; omega
          unfold stepF Ck.unless; rw [HOKF.out, b1, q1]; rfl)
        clear hb1 hmo
        go_wp2_with (fail)
        refine (ckfail_any HCW.out 20 line col).mono ?_
        rintro e w4 ⟨rfl, ht4, hc4⟩
        have hb4 := (ht4.block _ hsz (by omega)).trans HBW.out
        obtain ⟨e40, e41, e42, e43, e44⟩ := own5 hb4
        have hsz4 : wr.heap.size < w4.heap.size := (Array.getElem?_eq_some_iff.1 hb4).1
        have HT4 := Lib.hid (HTW.out.trans (ht4.mono (fun _ q => .inl q))); have HC4 := Lib.hid hc4; have HB4 := Lib.hid hb4
        clear ht4 hc4 hb4
        go_upto_region 7 with (fail)
        have hC := HC4.out
        have HLK := Lib.hid (show (kj.fail 20 line col).fm.length < maxLen by rw [(same_fail kj 20 line col).2.2.2.1]; exact HL.out); have HJK := Lib.hid (show j < (kj.fail 20 line col).fs.length by rw [(same_fail kj 20 line col).2.1]; exact HJ.out)
        obtain ⟨w9, hrun, hnm9, hgr9⟩ := (hC.fm.keep (w' := w4.drew) rfl).put wInt uMapI HLK.out HLEN.out HWF.out
        obtain ⟨gv9, fv9, hltC, _, _, _, _, _, c39, _, _, _, _, _⟩ := hC.open
        have HN9 := Lib.hid hnm9; have HG9 := Lib.hid hgr9
        clear hC hnm9 hgr9 b1 b2 b2'
        go_region
        go_wp2_with (fail)
        go_roundw
        case rel => exact ⟨j + 1, by omega, by go_num, HT4.out.drew.trans (Turn.grown HG9.out (fun q hq => by cases hq; exact .inr rfl)), by rw [HSUC.out, HST.out]; exact HC4.out.drew.putF HG9.out HJK.out HN9.out⟩
        case measure => simp [intOf]; omega
      · have b1 : kj.known name = true := hb1
        have b2 : decide ((256 : Int) ≤ j) = true := by simp; omega
        have b2' : decide (256 ≤ j) = true := by simp; omega
        have HST := Lib.hid (show stepF ⟨name, params, body, line, col⟩ j kj = { ((kj.fail 20 line col).fail 3 line col) with fm := (name, some (j : Int)) :: ((kj.fail 20 line col).fail 3 line col).fm } by
          have q1 : (decide ((j : Int) < 256) && decide (pn ≤ 6)) = false := by simp; omega
          unfold stepF Ck.unless; rw [HOKF.out, b1, q1]; rfl)
        clear hb1 hmo
        go_wp2_with (fail)
        refine (ckfail_any HCW.out 20 line col).mono ?_
        rintro e w4 ⟨rfl, ht4, hc4⟩
        have hb4 := (ht4.block _ hsz (by omega)).trans HBW.out
        obtain ⟨e40, e41, e42, e43, e44⟩ := own5 hb4
        have hsz4 : wr.heap.size < w4.heap.size := (Array.getElem?_eq_some_iff.1 hb4).1
        have HT4 := Lib.hid (HTW.out.trans (ht4.mono (fun _ q => .inl q))); have HC4 := Lib.hid hc4; have HB4 := Lib.hid hb4
        clear ht4 hc4 hb4
        go_wp2_with (fail)
        refine (ckfail_any HC4.out 3 line col).mono ?_
        rintro e w5 ⟨rfl, ht5, hc5⟩
        have hb5 := (ht5.block _ hsz4 (by omega)).trans HB4.out
        obtain ⟨e50, e51, e52, e53, e54⟩ := own5 hb5
        have hsz5 : wr.heap.size < w5.heap.size := (Array.getElem?_eq_some_iff.1 hb5).1
        have HT5 := Lib.hid (HT4.out.trans (ht5.mono (fun _ q => .inl q))); have HC5 := Lib.hid hc5; have HB5 := Lib.hid hb5
        clear ht5 hc5 hb5
        go_upto_region 7 with (fail)
        have hC := HC5.out
        have HLK := Lib.hid (show ((kj.fail 20 line col).fail 3 line col).fm.length < maxLen by rw [((same_fail kj 20 line col).trans (same_fail _ 3 line col)).2.2.2.1]; exact HL.out); have HJK := Lib.hid (show j < ((kj.fail 20 line col).fail 3 line col).fs.length by rw [((same_fail kj 20 line col).trans (same_fail _ 3 line col)).2.1]; exact HJ.out)
        obtain ⟨w9, hrun, hnm9, hgr9⟩ := (hC.fm.keep (w' := w5.drew) rfl).put wInt uMapI HLK.out HLEN.out HWF.out
        obtain ⟨gv9, fv9, hltC, _, _, _, _, _, c39, _, _, _, _, _⟩ := hC.open
        have HN9 := Lib.hid hnm9; have HG9 := Lib.hid hgr9
        clear hC hnm9 hgr9 b1 b2 b2'
        go_region
        go_wp2_with (fail)
        go_roundw
        case rel => exact ⟨j + 1, by omega, by go_num, HT5.out.drew.trans (Turn.grown HG9.out (fun q hq => by cases hq; exact .inr rfl)), by rw [HSUC.out, HST.out]; exact HC5.out.drew.putF HG9.out HJK.out HN9.out⟩
        case measure => simp [intOf]; omega
      · have b1 : kj.known name = true := hb1
        have b2 : decide ((256 : Int) ≤ j) = false := by simp; omega
        have b2' : decide (256 ≤ j) = false := by simp; omega
        have b3 : decide ((6 : Int) < pn) = true := by simp; omega
        have b3' : decide (6 < pn) = true := by simp; omega
        have HST := Lib.hid (show stepF ⟨name, params, body, line, col⟩ j kj = { ((kj.fail 20 line col).fail 3 line col) with fm := (name, some (j : Int)) :: ((kj.fail 20 line col).fail 3 line col).fm } by
          have q1 : (decide ((j : Int) < 256) && decide (pn ≤ 6)) = false := by simp; omega
          unfold stepF Ck.unless; rw [HOKF.out, b1, q1]; rfl)
        clear hb1 hmo
        go_wp2_with (fail)
        refine (ckfail_any HCW.out 20 line col).mono ?_
        rintro e w4 ⟨rfl, ht4, hc4⟩
        have hb4 := (ht4.block _ hsz (by omega)).trans HBW.out
        obtain ⟨e40, e41, e42, e43, e44⟩ := own5 hb4
        have hsz4 : wr.heap.size < w4.heap.size := (Array.getElem?_eq_some_iff.1 hb4).1
        have HT4 := Lib.hid (HTW.out.trans (ht4.mono (fun _ q => .inl q))); have HC4 := Lib.hid hc4; have HB4 := Lib.hid hb4
        clear ht4 hc4 hb4
        go_wp2_with (fail)
        refine (ckfail_any HC4.out 3 line col).mono ?_
        rintro e w5 ⟨rfl, ht5, hc5⟩
        have hb5 := (ht5.block _ hsz4 (by omega)).trans HB4.out
        obtain ⟨e50, e51, e52, e53, e54⟩ := own5 hb5
        have hsz5 : wr.heap.size < w5.heap.size := (Array.getElem?_eq_some_iff.1 hb5).1
        have HT5 := Lib.hid (HT4.out.trans (ht5.mono (fun _ q => .inl q))); have HC5 := Lib.hid hc5; have HB5 := Lib.hid hb5
        clear ht5 hc5 hb5
        go_upto_region 7 with (fail)
        have hC := HC5.out
        have HLK := Lib.hid (show ((kj.fail 20 line col).fail 3 line col).fm.length < maxLen by rw [((same_fail kj 20 line col).trans (same_fail _ 3 line col)).2.2.2.1]; exact HL.out); have HJK := Lib.hid (show j < ((kj.fail 20 line col).fail 3 line col).fs.length by rw [((same_fail kj 20 line col).trans (same_fail _ 3 line col)).2.1]; exact HJ.out)
        obtain ⟨w9, hrun, hnm9, hgr9⟩ := (hC.fm.keep (w' := w5.drew) rfl).put wInt uMapI HLK.out HLEN.out HWF.out
        obtain ⟨gv9, fv9, hltC, _, _, _, _, _, c39, _, _, _, _, _⟩ := hC.open
        have HN9 := Lib.hid hnm9; have HG9 := Lib.hid hgr9
        clear hC hnm9 hgr9 b1 b2 b2'
        go_region
        go_wp2_with (fail)
        go_roundw
        case rel => exact ⟨j + 1, by omega, by go_num, HT5.out.drew.trans (Turn.grown HG9.out (fun q hq => by cases hq; exact .inr rfl)), by rw [HSUC.out, HST.out]; exact HC5.out.drew.putF HG9.out HJK.out HN9.out⟩
        case measure => simp [intOf]; omega
      · have b1 : kj.known name = false := hb1
        have b2 : decide ((256 : Int) ≤ j) = false := by simp; omega
        have b2' : decide (256 ≤ j) = false := by simp; omega
        have b3 : decide ((6 : Int) < pn) = false := by simp; omega
        have b3' : decide (6 < pn) = false := by simp; omega
        have HST := Lib.hid (show stepF ⟨name, params, body, line, col⟩ j kj = { (kj) with fm := (name, some (j : Int)) :: (kj).fm } by
          have q1 : (decide ((j : Int) < 256) && decide (pn ≤ 6)) = true := by simp; omega
          unfold stepF Ck.unless; rw [HOKF.out, b1, q1]; rfl)
        clear hb1 hmo
        go_upto_region 7 with (fail)
        have hC := HCW.out
        have HLK := HL; have HJK := HJ
        obtain ⟨w9, hrun, hnm9, hgr9⟩ := (hC.fm.keep (w' := w3.drew) rfl).put wInt uMapI HLK.out HLEN.out HWF.out
        obtain ⟨gv9, fv9, hltC, _, _, _, _, _, c39, _, _, _, _, _⟩ := hC.open
        have HN9 := Lib.hid hnm9; have HG9 := Lib.hid hgr9
        clear hC hnm9 hgr9 b1 b2 b2'
        go_region
        go_wp2_with (fail)
        go_roundw
        case rel => exact ⟨j + 1, by omega, by go_num, HTW.out.drew.trans (Turn.grown HG9.out (fun q hq => by cases hq; exact .inr rfl)), by rw [HSUC.out, HST.out]; exact HCW.out.drew.putF HG9.out HJK.out HN9.out⟩
        case measure => simp [intOf]; omega
      · have b1 : kj.known name = false := hb1
        have b2 : decide ((256 : Int) ≤ j) = true := by simp; omega
        have b2' : decide (256 ≤ j) = true := by simp; omega
        have HST := Lib.hid (show stepF ⟨name, params, body, line, col⟩ j kj = { ((kj).fail 3 line col) with fm := (name, some (j : Int)) :: ((kj).fail 3 line col).fm } by
          have q1 : (decide ((j : Int) < 256) && decide (pn ≤ 6)) = false := by simp; omega
          unfold stepF Ck.unless; rw [HOKF.out, b1, q1]; rfl)
        clear hb1 hmo
        go_wp2_with (fail)
        refine (ckfail_any HCW.out 3 line col).mono ?_
        rintro e w4 ⟨rfl, ht4, hc4⟩
        have hb4 := (ht4.block _ hsz (by omega)).trans HBW.out
        obtain ⟨e40, e41, e42, e43, e44⟩ := own5 hb4
        have hsz4 : wr.heap.size < w4.heap.size := (Array.getElem?_eq_some_iff.1 hb4).1
        have HT4 := Lib.hid (HTW.out.trans (ht4.mono (fun _ q => .inl q))); have HC4 := Lib.hid hc4; have HB4 := Lib.hid hb4
        clear ht4 hc4 hb4
        go_upto_region 7 with (fail)
        have hC := HC4.out
        have HLK := Lib.hid (show ((kj).fail 3 line col).fm.length < maxLen by rw [(same_fail kj 3 line col).2.2.2.1]; exact HL.out); have HJK := Lib.hid (show j < ((kj).fail 3 line col).fs.length by rw [(same_fail kj 3 line col).2.1]; exact HJ.out)
        obtain ⟨w9, hrun, hnm9, hgr9⟩ := (hC.fm.keep (w' := w4.drew) rfl).put wInt uMapI HLK.out HLEN.out HWF.out
        obtain ⟨gv9, fv9, hltC, _, _, _, _, _, c39, _, _, _, _, _⟩ := hC.open
        have HN9 := Lib.hid hnm9; have HG9 := Lib.hid hgr9
        clear hC hnm9 hgr9 b1 b2 b2'
        go_region
        go_wp2_with (fail)
        go_roundw
        case rel => exact ⟨j + 1, by omega, by go_num, HT4.out.drew.trans (Turn.grown HG9.out (fun q hq => by cases hq; exact .inr rfl)), by rw [HSUC.out, HST.out]; exact HC4.out.drew.putF HG9.out HJK.out HN9.out⟩
        case measure => simp [intOf]; omega
      · have b1 : kj.known name = false := hb1
        have b2 : decide ((256 : Int) ≤ j) = false := by simp; omega
        have b2' : decide (256 ≤ j) = false := by simp; omega
        have b3 : decide ((6 : Int) < pn) = true := by simp; omega
        have b3' : decide (6 < pn) = true := by simp; omega
        have HST := Lib.hid (show stepF ⟨name, params, body, line, col⟩ j kj = { ((kj).fail 3 line col) with fm := (name, some (j : Int)) :: ((kj).fail 3 line col).fm } by
          have q1 : (decide ((j : Int) < 256) && decide (pn ≤ 6)) = false := by simp; omega
          unfold stepF Ck.unless; rw [HOKF.out, b1, q1]; rfl)
        clear hb1 hmo
        go_wp2_with (fail)
        refine (ckfail_any HCW.out 3 line col).mono ?_
        rintro e w4 ⟨rfl, ht4, hc4⟩
        have hb4 := (ht4.block _ hsz (by omega)).trans HBW.out
        obtain ⟨e40, e41, e42, e43, e44⟩ := own5 hb4
        have hsz4 : wr.heap.size < w4.heap.size := (Array.getElem?_eq_some_iff.1 hb4).1
        have HT4 := Lib.hid (HTW.out.trans (ht4.mono (fun _ q => .inl q))); have HC4 := Lib.hid hc4; have HB4 := Lib.hid hb4
        clear ht4 hc4 hb4
        go_upto_region 7 with (fail)
        have hC := HC4.out
        have HLK := Lib.hid (show ((kj).fail 3 line col).fm.length < maxLen by rw [(same_fail kj 3 line col).2.2.2.1]; exact HL.out); have HJK := Lib.hid (show j < ((kj).fail 3 line col).fs.length by rw [(same_fail kj 3 line col).2.1]; exact HJ.out)
        obtain ⟨w9, hrun, hnm9, hgr9⟩ := (hC.fm.keep (w' := w4.drew) rfl).put wInt uMapI HLK.out HLEN.out HWF.out
        obtain ⟨gv9, fv9, hltC, _, _, _, _, _, c39, _, _, _, _, _⟩ := hC.open
        have HN9 := Lib.hid hnm9; have HG9 := Lib.hid hgr9
        clear hC hnm9 hgr9 b1 b2 b2'
        go_region
        go_wp2_with (fail)
        go_roundw
        case rel => exact ⟨j + 1, by omega, by go_num, HT4.out.drew.trans (Turn.grown HG9.out (fun q hq => by cases hq; exact .inr rfl)), by rw [HSUC.out, HST.out]; exact HC4.out.drew.putF HG9.out HJK.out HN9.out⟩
        case measure => simp [intOf]; omega
    · obtain rfl : j = fs.length := by omega
      have HALL := Lib.hid (fnsAt_all fs k)
      rw [HALL.out] at HCR
      clear htr hcr
      go_wp2_with (fail)
      go_end0
      exact ⟨rfl, HTR.out, HCR.out⟩
end Go.Proofs.YtffgioifjdpajaaGreatDoor
