/-
  The checker: function.
-/
import Derived.Test.YtffgioifjdpajaaGreatDoorChkQ
namespace Go.Proofs.YtffgioifjdpajaaGreatDoor
open Go.ChangeShapes Go.WideShapes Go.ChangeAt Go.RowKit
set_option linter.unusedVariables false

def stepP (l c : Int) (x : List UInt8) (k : Ck) : Ck := { (k.unless (!k.known x) 20 l c) with lm := (x, some 1) :: (k.unless (!k.known x) 20 l c).lm }
theorem ckParams_snoc (l c : Int) : ∀ (xs : List (List UInt8)) (x : List UInt8) (k : Ck), ckParams l c (xs ++ [x]) k = stepP l c x (ckParams l c xs k)
  | [], x, k => by simp [ckParams, stepP]
  | a :: xs, x, k => by simp only [List.cons_append, ckParams]; exact ckParams_snoc l c xs x _
def paAt (l c : Int) (xs : List (List UInt8)) (i : Nat) (k : Ck) : Ck := ckParams l c (xs.take i) k
theorem paAt_succ {l c : Int} {xs : List (List UInt8)} {i : Nat} (h : i < xs.length) (k : Ck) : paAt l c xs (i + 1) k = stepP l c xs[i] (paAt l c xs i k) := by
  unfold paAt; rw [List.take_succ_eq_append_getElem h, ckParams_snoc]
theorem paAt_all (l c : Int) (xs : List (List UInt8)) (k : Ck) : paAt l c xs xs.length k = ckParams l c xs k := by unfold paAt; rw [List.take_length]
theorem stepP_lm (l c : Int) (x : List UInt8) (k : Ck) : (stepP l c x k).lm = (x, some 1) :: k.lm := by
  show _ :: _ = _; rw [(same_unless k (!k.known x) 20 l c).2.2.2.2]
theorem paAt_lm (l c : Int) (xs : List (List UInt8)) (k : Ck) (ht : Typed k) : ∀ i, i ≤ xs.length → (paAt l c xs i k).lm.length = k.lm.length + i ∧ Typed (paAt l c xs i k)
  | 0, _ => ⟨rfl, ht⟩
  | i + 1, h => by
    obtain ⟨h1, h2⟩ := paAt_lm l c xs k ht i (by omega)
    rw [paAt_succ (by omega)]
    refine ⟨by rw [stepP_lm]; simp [h1]; omega, fun y t hy => ?_⟩
    rw [stepP_lm] at hy
    simp only [look] at hy
    split at hy
    · cases hy; omega
    · exact h2 y t hy
/-- A new map for the locals. -/
theorem Checks.newL {base C G F : Nat} {lv : Value} {k : Ck} {w : World} (h : Checks base C G F lv k w) : Checks base C G F (.map (some w.heap.size)) { k with lm := [] } ((w.alloc (.map #[] 0)).setCell ⟨C, 4, none⟩ (.map (some w.heap.size))) := by
  have h' := h.alloc (.map #[] 0)
  have hlow := h.low
  have hGlt := h.gm.lt
  have hFlt := h.fm.lt
  have hClt : C < w.heap.size := by obtain ⟨_, _, q, _⟩ := h.open; exact q
  obtain ⟨⟨gv, fv, hb, h1, h2⟩, h3, h4, h5, h6, h7, h8, h9⟩ := h'
  have ht : Turn (· = C) (w.alloc (.map #[] 0)) ((w.alloc (.map #[] 0)).setCell ⟨C, 4, none⟩ (.map (some w.heap.size))) := (Turn.refl (· = C) _).put C 4 _ (.inl rfl)
  have hk : ∀ g, g < base → g < (w.alloc (.map #[] 0)).heap.size → ∀ o, ((w.alloc (.map #[] 0)).setCell ⟨C, 4, none⟩ (.map (some w.heap.size))).cell? ⟨g, o, none⟩ = (w.alloc (.map #[] 0)).cell? ⟨g, o, none⟩ := fun g hg hl o => ht.cell hl (by omega) o
  refine ⟨⟨gv, fv, ?_, h1.keep ht.size (fun g hg _ => hg) hk, h2.keep ht.size (fun g hg _ => hg) hk⟩, h3.keep (ht.block G h3.lt (map_ne h3 hb)), h4.keep (ht.block F h4.lt (map_ne h4 hb)), .inr ⟨_, rfl, (nm_made 82 w).keep (ht.block _ (by simp) (by omega))⟩, ⟨hlow.1, hlow.2.1, hlow.2.2.1, fun L hL => ?_⟩, h7, h8, h9⟩
  · rw [set_block _ _ _ _ _ _ hb]; rfl
  · cases hL; exact ⟨by omega, by omega, by omega⟩
theorem Turn.only {C L : Nat} {w w' : World} (h : Turn (fun q => q = C ∨ q = L) w w') (hL : w.heap.size ≤ L) : Turn (· = C) w w' := ⟨h.os, h.tape, h.output, h.size, fun q hq hx => h.block q hq (fun hy => by rcases hy with hy | hy; exact hx hy; omega)⟩
def FnPostK (base C G F : Nat) (k' : Ck) (w : World) (e : Ending) (w' : World) : Prop := e = .returned (.tuple #[]) ∧ Turn (· = C) w w' ∧ ∃ lv', Checks base C G F lv' k' w'
set_option maxHeartbeats 8000000 in
set_option maxRecDepth 100000 in
theorem function_ck {f : Fn} (hsh : ∀ i (hi : i < f.params.length), (f.params[i]).length ≤ 65536) (hfit : Sm.fits f.body = true) (hroom : f.params.length + Sm.grows f.body ≤ 1000000) {base C G F : Nat} {lv : Value} {k : Ck} {w : World} {pa ba : Option Addr} {pc bn bc : Nat} (h : Checks base C G F lv k w) (hp : StrsAt w (· < base) f.params (.slice pa f.params.length pc)) (hb : BodyAt w (· < base) f.body (.slice ba bn bc)) :
    Calls Tryz.prog 22 #[.pointer (some ⟨C, 0, none⟩), .agg #[.string ⟨f.name.toArray⟩, .slice pa f.params.length pc, .slice ba bn bc, .int .i64 f.line, .int .i64 f.col]] w (FnPostK base C G F (ckFunc f k) w) := by
  obtain ⟨name, params, body, line, col⟩ := f
  dsimp only at hsh hfit hroom hp hb ⊢
  have HC := Lib.hid h; have HP := Lib.hid hp; have HB := Lib.hid hb; have HSH := Lib.hid hsh; have HFIT := Lib.hid hfit; have HROOM := Lib.hid hroom
  obtain ⟨gv, fv, hlt, _, _, c0, c1, c2, c3, c4, _, _, _, hf⟩ := h.open
  have f4 := hf 4
  have hlow := h.low.1
  have HE := Lib.hid (show ckFunc ⟨name, params, body, line, col⟩ k = ckBlock body (ckParams line col params { k with lm := [] }) from rfl)
  rw [HE.out]
  clear h hp hb hsh hfit hroom hf HE
  have hmm := @run_makeMap Tryz.prog
  go_enter Tryz.func22, Tryz.ntmps22
  go_upto_region 3 with (fail)
  have hcomm : ((w.setCell ⟨C, 4, none⟩ (.map (some (w.heap.size + 1)))).alloc (.cells #[.string ⟨name.toArray⟩, .slice pa params.length pc, .slice ba bn bc, .int .i64 line, .int .i64 col] 46)).alloc (.map #[] 0) = ((w.alloc (.cells #[.string ⟨name.toArray⟩, .slice pa params.length pc, .slice ba bn bc, .int .i64 line, .int .i64 col] 46)).alloc (.map #[] 0)).setCell ⟨C, 4, none⟩ (.map (some (w.alloc (.cells #[.string ⟨name.toArray⟩, .slice pa params.length pc, .slice ba bn bc, .int .i64 line, .int .i64 col] 46)).heap.size)) := by
    rw [World.setCell_alloc_past _ _ _ _ (by simp; omega), World.setCell_alloc_past _ _ _ _ hlt]
    simp
  rw [hcomm]
  have hC1 := (HC.out.alloc (.cells #[.string ⟨name.toArray⟩, .slice pa params.length pc, .slice ba bn bc, .int .i64 line, .int .i64 col] 46)).newL
  have hT1 : Turn (· = C) w (((w.alloc (.cells #[.string ⟨name.toArray⟩, .slice pa params.length pc, .slice ba bn bc, .int .i64 line, .int .i64 col] 46)).alloc (.map #[] 0)).setCell ⟨C, 4, none⟩ (.map (some (w.alloc (.cells #[.string ⟨name.toArray⟩, .slice pa params.length pc, .slice ba bn bc, .int .i64 line, .int .i64 col] 46)).heap.size))) := (((Turn.refl (· = C) w).alloc (.cells #[.string ⟨name.toArray⟩, .slice pa params.length pc, .slice ba bn bc, .int .i64 line, .int .i64 col] 46)).alloc (.map #[] 0)).put C 4 _ (.inl rfl)
  have hB1 : (((w.alloc (.cells #[.string ⟨name.toArray⟩, .slice pa params.length pc, .slice ba bn bc, .int .i64 line, .int .i64 col] 46)).alloc (.map #[] 0)).setCell ⟨C, 4, none⟩ (.map (some (w.alloc (.cells #[.string ⟨name.toArray⟩, .slice pa params.length pc, .slice ba bn bc, .int .i64 line, .int .i64 col] 46)).heap.size))).heap[w.heap.size]? = some (.cells #[.string ⟨name.toArray⟩, .slice pa params.length pc, .slice ba bn bc, .int .i64 line, .int .i64 col] 46 (0, 0)) :=
    (Below.heap_setCell _ _ _ _ (by show w.heap.size ≠ C; omega)).trans (alloc_past _ _ _ _ (by simp) (alloc_at _ _ _ rfl))
  have hL1 : w.heap.size + 1 = (w.alloc (.cells #[.string ⟨name.toArray⟩, .slice pa params.length pc, .slice ba bn bc, .int .i64 line, .int .i64 col] 46)).heap.size := by simp
  generalize (((w.alloc (.cells #[.string ⟨name.toArray⟩, .slice pa params.length pc, .slice ba bn bc, .int .i64 line, .int .i64 col] 46)).alloc (.map #[] 0)).setCell ⟨C, 4, none⟩ (.map (some (w.alloc (.cells #[.string ⟨name.toArray⟩, .slice pa params.length pc, .slice ba bn bc, .int .i64 line, .int .i64 col] 46)).heap.size))) = W at *
  rw [← hL1] at hC1
  clear hcomm hL1 c0 c1 c2 c3 c4 f4 hmm
  generalize hLL : w.heap.size + 1 = L at *
  have hLge : w.heap.size ≤ L := by omega
  have hLne : w.heap.size ≠ L := by omega
  clear hLL
  obtain ⟨d0, d1, d2, d3, d4⟩ := own5 hB1
  have hsz : w.heap.size < W.heap.size := (Array.getElem?_eq_some_iff.1 hB1).1
  have HC1 := Lib.hid hC1; have HT1 := Lib.hid hT1; have HB1 := Lib.hid hB1
  have hty : Typed { k with lm := [] } := fun x t hx => by simp [look] at hx
  have HLM := Lib.hid (paAt_lm line col params { k with lm := [] } hty)
  have hps : params.length ≤ 4611686018427387904 ∧ (∀ j (hj : j < params.length), ∃ g o, pa = some ⟨g, o, none⟩ ∧ g < base ∧ g < w.heap.size ∧ params.length ≤ pc ∧ w.cell? ⟨g, o + j, none⟩ = some (.string ⟨(params[j]).toArray⟩)) := by
    rcases HP.out with ⟨q, a, cap, q2⟩ | ⟨_, g, o, cap, q2, hS, hg, h1, h2, h3⟩
    · exact ⟨by rw [q]; simp, fun j hj => by rw [q] at hj; simp at hj⟩
    · cases q2; exact ⟨h2, fun j hj => ⟨g, o, rfl, hS, hg, h1, h3 j params[j] (List.getElem?_eq_getElem hj)⟩⟩
  obtain ⟨hmaxp, hrow⟩ := hps
  have HROW := Lib.hid hrow
  clear hC1 hT1 hB1 hty hrow
  go_loopw [13] (fun i wr => ∃ j : Nat, j ≤ params.length ∧ i = .int .i64 j ∧ Turn (fun q => q = C ∨ q = L) W wr ∧ Checks base C G F (.map (some L)) (paAt line col params j { k with lm := [] }) wr) (fun i _ => params.length - (intOf i).toNat)
  case atStart => exact ⟨0, Nat.zero_le _, rfl, Turn.refl _ _, HC1.out⟩
  case round =>
    obtain ⟨j, hj, rfl, htr, hcr⟩ := hrel
    have HTR := Lib.hid htr; have HCR := Lib.hid hcr
    have hbr := (htr.block w.heap.size hsz (by omega)).trans HB1.out
    obtain ⟨e0, e1, e2, e3, e4⟩ := own5 hbr
    have hszr : w.heap.size < wr.heap.size := (Array.getElem?_eq_some_iff.1 hbr).1
    have HBR := Lib.hid hbr
    clear hbr
    by_cases hjl : j < params.length
    · obtain ⟨g, o, rfl, hg, hgl, hcap, hcell⟩ := HROW.out j hjl
      have r0 : wr.cell? ⟨g, o + j, none⟩ = some (.string ⟨(params[j]).toArray⟩) := (htr.cell (Nat.lt_of_lt_of_le hgl HT1.out.size) (by have := (hcr.low.2.2.2 L rfl).1; omega) _).trans ((HT1.out.cell hgl (by omega) _).trans hcell)
      have hgr : g < wr.heap.size := Nat.lt_of_lt_of_le (Nat.lt_of_lt_of_le hgl HT1.out.size) htr.size
      have HSUC := Lib.hid (paAt_succ (l := line) (c := col) hjl { k with lm := [] })
      have HLEN := Lib.hid (show (params[j]).length ≤ maxLen by have := HSH.out j hjl; unfold maxLen; omega)
      have HLK := Lib.hid (show (paAt line col params j { k with lm := [] }).lm.length < maxLen by rw [(HLM.out j hj).1]; simp; have := HROOM.out; unfold maxLen; omega)
      generalize params[j] = x at *
      generalize paAt line col params j { k with lm := [] } = kj at *
      clear htr hcr hcell
      go_wp2_with (fail)
      refine (ckknown_any HCR.out x HLEN.out).mono ?_
      rintro e w3 ⟨rfl, rfl⟩
      rcases Bool.eq_false_or_eq_true (kj.known x) with hb1 | hb1
      · have HST := Lib.hid (show stepP line col x kj = { (kj.fail 20 line col) with lm := (x, some 1) :: (kj.fail 20 line col).lm } by unfold stepP Ck.unless; rw [hb1]; rfl)
        go_wp2_with (fail)
        refine (ckfail_any HCR.out 20 line col).mono ?_
        rintro e w4 ⟨rfl, ht4, hc4⟩
        obtain ⟨w9, hrun, hnm9, hgr9⟩ := hc4.nmL.put (v := 1) wType uMapT (by rw [(same_fail kj 20 line col).2.2.2.2]; exact HLK.out) HLEN.out (by decide)
        obtain ⟨gv9, fv9, hltC, _, _, _, _, _, _, c49, _, _, _, _⟩ := hc4.open
        have HT4 := Lib.hid (HTR.out.trans (ht4.mono (fun _ q => .inl q))); have HC4 := Lib.hid hc4; have HN9 := Lib.hid hnm9; have HG9 := Lib.hid hgr9
        clear ht4 hc4 hnm9 hgr9 hb1
        go_wp2_with (fail)
        go_roundw
        case rel => exact ⟨j + 1, by omega, by go_num, HT4.out.trans (Turn.grown HG9.out (fun q hq => by cases hq; exact .inr rfl)), by rw [HSUC.out, HST.out]; exact HC4.out.putL HG9.out HN9.out⟩
        case measure => simp [intOf]; omega
      · have HST := Lib.hid (show stepP line col x kj = { kj with lm := (x, some 1) :: kj.lm } by unfold stepP Ck.unless; rw [hb1]; rfl)
        have hC3 := HCR.out
        obtain ⟨w9, hrun, hnm9, hgr9⟩ := hC3.nmL.put (v := 1) wType uMapT HLK.out HLEN.out (by decide)
        obtain ⟨gv9, fv9, hltC, _, _, _, _, _, _, c49, _, _, _, _⟩ := hC3.open
        have HN9 := Lib.hid hnm9; have HG9 := Lib.hid hgr9
        clear hC3 hnm9 hgr9
        go_wp2_with (fail)
        go_roundw
        case rel => exact ⟨j + 1, by omega, by go_num, HTR.out.trans (Turn.grown HG9.out (fun q hq => by cases hq; exact .inr rfl)), by rw [HSUC.out, HST.out]; exact HCR.out.putL HG9.out HN9.out⟩
        case measure => simp [intOf]; omega
    · obtain rfl : j = params.length := by omega
      have HALL := Lib.hid (paAt_all line col params { k with lm := [] })
      obtain ⟨q1, q2⟩ := HLM.out params.length (Nat.le_refl _)
      rw [HALL.out] at HCR q1 q2
      have HQ1 := Lib.hid q1; have HQ2 := Lib.hid q2
      have HBODY := Lib.hid ((HB.out.turn HT1.out (fun q hq => by subst hq; exact hlow)).turn htr (fun q hq => by rcases hq with rfl | rfl; exact hlow; exact (hcr.low.2.2.2 _ rfl).1))
      clear htr hcr q1 q2
      go_wp2_with (fail)
      refine (blocks_ok body HFIT.out base C G F L _ _ _ HQ2.out (by rw [HQ1.out]; simp; have := HROOM.out; omega) HCR.out HBODY.out).mono ?_
      rintro e w5 ⟨rfl, ht5, hc5⟩
      have HT5 := Lib.hid ht5; have HC5 := Lib.hid hc5
      clear ht5 hc5
      go_wp2_with (fail)
      go_end0
      exact ⟨rfl, ((HT1.out.two).trans (HTR.out.trans HT5.out)).only hLge, _, HC5.out⟩
end Go.Proofs.YtffgioifjdpajaaGreatDoor
