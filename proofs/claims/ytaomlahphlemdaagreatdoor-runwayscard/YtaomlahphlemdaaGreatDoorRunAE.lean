/-
  Run, of a program without a fault.
-/
import Derived.Deep.Onto
import Derived.Test.YtaomlahphlemdaaGreatDoorRunAD
namespace Go.Proofs.YtaomlahphlemdaaGreatDoor
open Go.ChangeShapes Go.WideShapes Go.ChangeAt Go.RowKit
set_option linter.unusedVariables false

set_option maxHeartbeats 4000000 in
theorem into_any {B Rb : Nat} {ov bv : Value} {mg : Nat} {gs : List Nat} {v : RV} {r r1 : Rn} {w : World} (h : Runs B Rb ov bv mg gs v r w) (hz : r.pile.length ≤ 1099511627776) (hnx : r.next ≤ 1099511627776) (hcl : r.calls.length ≤ 1099511627776) (f : Int) (hi : r.into f = some r1) :
    Calls Tryz.prog 28 #[.pointer (some ⟨Rb, 0, none⟩), .int .i64 f] w (RPost B Rb ov bv mg gs v r1 (.tuple #[]) w) := by
  unfold Rn.into at hi
  split at hi
  · rename_i hf0
    split at hi
    · rename_i hd
      cases hi
      exact enter_deep h hd hcl f
    · rename_i hd
      obtain ⟨j, rfl⟩ := Int.eq_ofNat_of_zero_le hf0
      cases hb : r.bodies[((j : Nat) : Int).toNat]? with
      | none => rw [hb] at hi; cases hi
      | some b =>
        rw [hb] at hi
        simp only at hi
        split at hi
        · rename_i hc
          obtain ⟨c1, c2, c3, c4, c5, c6⟩ := hc
          obtain ⟨st, pn, wn⟩ := b
          simp only at c1 c2 c3 c4 c5 c6 hi
          obtain ⟨st, rfl⟩ := Int.eq_ofNat_of_zero_le c1
          obtain ⟨pn, rfl⟩ := Int.eq_ofNat_of_zero_le c2
          obtain ⟨wn, rfl⟩ := Int.eq_ofNat_of_zero_le (Int.le_trans c2 c3)
          have hj : j < r.bodies.length ∧ r.bodies[j]? = some ⟨(st : Int), (pn : Int), (wn : Int)⟩ := by
            have hb' : r.bodies[j]? = some ⟨(st : Int), (pn : Int), (wn : Int)⟩ := by simpa using hb
            exact ⟨(List.getElem?_eq_some_iff.1 hb').1, hb'⟩
          refine enter_ok h (by omega) j hj.1 st pn wn (List.getElem?_eq_some_iff.1 hj.2).2 (by omega) (by omega) (by omega) (by omega) hz hnx r1 ?_
          rw [← Option.some.inj hi]
          have e1 : ((wn : Int) - (pn : Int)).toNat = wn - pn := by omega
          simp only [Int.toNat_natCast, e1]
        · cases hi
  · cases hi
theorem goes_end {n : Nat} {r rz : Rn} (h : goes n r = some rz) (he : r.ended = true) : r = rz := by
  cases n with
  | zero => unfold goes at h; rw [if_pos he] at h; exact Option.some.inj h
  | succ n => unfold goes at h; rw [if_pos he] at h; exact Option.some.inj h
theorem goes_more {n : Nat} {r rz : Rn} (h : goes n r = some rz) (he : r.ended = false) : ∃ m q, n = m + 1 ∧ okR r = true ∧ r.does = some q ∧ goes m q = some rz := by
  have hne : ¬ r.ended = true := by simp [he]
  cases n with
  | zero => unfold goes at h; rw [if_neg hne] at h; cases h
  | succ n =>
    unfold goes at h
    rw [if_neg hne] at h
    split at h
    · rename_i hok
      cases hd : r.does with
      | none => rw [hd] at h; cases h
      | some q => rw [hd] at h; exact ⟨n, q, rfl, hok, rfl, h⟩
    · cases h
theorem set6 {w : World} {b : Nat} {c0 c1 c2 c3 c4 c5 : Value} {t : TypeId} (h : w.heap[b]? = some (.cells #[c0, c1, c2, c3, c4, c5] t (0, 0))) (x0 x1 x2 x3 x4 x5 : Value) :
    ((((((w.setCell ⟨b, 0, none⟩ x0).setCell ⟨b, 1, none⟩ x1).setCell ⟨b, 2, none⟩ x2).setCell ⟨b, 3, none⟩ x3).setCell ⟨b, 4, none⟩ x4).setCell ⟨b, 5, none⟩ x5).heap[b]? = some (.cells #[x0, x1, x2, x3, x4, x5] t (0, 0)) := by
  rw [set_block _ _ _ _ _ _ (set_block _ _ _ _ _ _ (set_block _ _ _ _ _ _ (set_block _ _ _ _ _ _ (set_block _ _ _ _ _ _ (set_block _ _ _ _ _ _ h)))))]
  rfl
theorem kept6 {w : World} {b q : Nat} (hq : q ≠ b) (x0 x1 x2 x3 x4 x5 : Value) :
    ((((((w.setCell ⟨b, 0, none⟩ x0).setCell ⟨b, 1, none⟩ x1).setCell ⟨b, 2, none⟩ x2).setCell ⟨b, 3, none⟩ x3).setCell ⟨b, 4, none⟩ x4).setCell ⟨b, 5, none⟩ x5).heap[q]? = w.heap[q]? := by
  rw [Below.heap_setCell _ _ _ _ hq, Below.heap_setCell _ _ _ _ hq, Below.heap_setCell _ _ _ _ hq, Below.heap_setCell _ _ _ _ hq, Below.heap_setCell _ _ _ _ hq, Below.heap_setCell _ _ _ _ hq]
theorem grown6 {w0 w : World} {b : Nat} (hb : w0.heap.size ≤ b) (h : w0.grownBy w none) (x0 x1 x2 x3 x4 x5 : Value) :
    w0.grownBy ((((((w.setCell ⟨b, 0, none⟩ x0).setCell ⟨b, 1, none⟩ x1).setCell ⟨b, 2, none⟩ x2).setCell ⟨b, 3, none⟩ x3).setCell ⟨b, 4, none⟩ x4).setCell ⟨b, 5, none⟩ x5) none := by
  repeat (first | with_reducible (refine grown_put ?_ _ _ hb) | with_reducible (exact h))
/-- A result, in memory: what the runner has at its end. -/
structure ResAt (base : Nat) (rz : Rn) (cs : Array Value) (w : World) : Prop where
  is : ∃ lv mg gs, cs = #[.int .i64 rz.val, .int .i64 rz.trap, lv, .int .i64 rz.steps, .int .i64 rz.deep, .slice (some ⟨mg, 0, none⟩) gs.length gs.length] ∧ w.ownsRow base 64 3 lv rz.leaks.length (lkCells rz.leaks) ∧ MemIn base mg gs rz.mem gs.length w
set_option maxHeartbeats 8000000 in
set_option maxRecDepth 100000 in
theorem run_good {p : Pr} (hfit : prFit p = true) (hgood : prGood p = true) (hck : (ckProg p).err = 0) (hN : p.globals.length ≤ 1099511627776) {w : World} {cs : Array Value} (hat : p.At w (· < w.heap.size) cs) (ins : List (List Int)) (iv : Value) (hin : InsAt w (· < w.heap.size) ins iv) (fuel : Int) (k : Nat) (rz : Rn) (hrun : runL p ins fuel k = some rz) :
    Calls Tryz.prog 13 #[.agg cs, iv, .int .i64 fuel] w fun e w' => w.grownBy w' none ∧ ((rz.fault ≠ 0 ∧ e = .returned (.tuple #[.agg zeroR, .int .i64 rz.fault])) ∨ (rz.fault = 0 ∧ ∃ rs, e = .returned (.tuple #[.agg rs, .int .i64 0]) ∧ ResAt w.heap.size rz rs w')) := by
  have HAT := Lib.hid hat; have HFIT := Lib.hid hfit; have HGD := Lib.hid hgood; have HIN := Lib.hid hin; have HRUN := Lib.hid hrun; have HN := Lib.hid hN
  obtain ⟨a1, a2, a3, b1, b2, b3, rfl⟩ := hat.cells
  obtain ⟨ia, icap, rfl, _⟩ := hin
  have HCK := Lib.hid hck
  clear hat hfit hck hgood hrun hN
  go_enter Tryz.func13, Tryz.ntmps13
  go_wp2_with (fail)
  have hg0 : w.grownBy ((w.alloc (.cells #[.slice a1 a2 a3, .slice b1 b2 b3] 25)).alloc (.cells #[.int .i64 0, .int .i64 0, .slice none 0 0, .int .i64 0, .int .i64 0, .slice none 0 0] 33)) none := grown_trans (grown_alloc _ _) (grown_alloc _ _)
  have hb0 : ((w.alloc (.cells #[.slice a1 a2 a3, .slice b1 b2 b3] 25)).alloc (.cells #[.int .i64 0, .int .i64 0, .slice none 0 0, .int .i64 0, .int .i64 0, .slice none 0 0] 33)).heap[w.heap.size]? = some (.cells #[.slice a1 a2 a3, .slice b1 b2 b3] 25 (0, 0)) := alloc_past _ _ _ _ (by simp) (alloc_at _ _ _ rfl)
  have hb1 : ((w.alloc (.cells #[.slice a1 a2 a3, .slice b1 b2 b3] 25)).alloc (.cells #[.int .i64 0, .int .i64 0, .slice none 0 0, .int .i64 0, .int .i64 0, .slice none 0 0] 33)).heap[w.heap.size + 1]? = some (.cells #[.int .i64 0, .int .i64 0, .slice none 0 0, .int .i64 0, .int .i64 0, .slice none 0 0] 33 (0, 0)) := alloc_at _ _ _ (by simp)
  have hat0 : p.At ((w.alloc (.cells #[.slice a1 a2 a3, .slice b1 b2 b3] 25)).alloc (.cells #[.int .i64 0, .int .i64 0, .slice none 0 0, .int .i64 0, .int .i64 0, .slice none 0 0] 33)) (· < ((w.alloc (.cells #[.slice a1 a2 a3, .slice b1 b2 b3] 25)).alloc (.cells #[.int .i64 0, .int .i64 0, .slice none 0 0, .int .i64 0, .int .i64 0, .slice none 0 0] 33)).heap.size) #[.slice a1 a2 a3, .slice b1 b2 b3] :=
    HAT.out.keep hg0.size (fun q _ hq => Nat.lt_of_lt_of_le hq hg0.size) (fun q _ hq o => World.cell?_of_block (hg0.block q hq (by simp)))
  generalize ((w.alloc (.cells #[.slice a1 a2 a3, .slice b1 b2 b3] 25)).alloc (.cells #[.int .i64 0, .int .i64 0, .slice none 0 0, .int .i64 0, .int .i64 0, .slice none 0 0] 33)) = W0 at *
  have HG0 := Lib.hid hg0; have HB0 := Lib.hid hb0; have HB1 := Lib.hid hb1; have HAT0 := Lib.hid hat0
  clear hg0 hb0 hb1 hat0
  refine (program_ck HFIT.out HAT0.out).mono ?_
  rintro e w2 ⟨j1, j2, rfl, hg2, hin⟩
  have HG2 := Lib.hid hg2; have HINF := Lib.hid hin
  clear hg2 hin
  have hj : ∃ G F, j1 = .map (some G) ∧ j2 = .map (some F) ∧ NM 3 w2 G (ckProg p).gm ∧ NM 3 w2 F (ckProg p).fm := by have h := HINF.out; unfold InfoAt at h; rwa [if_pos HCK.out] at h
  obtain ⟨G, F, rfl, rfl, hG, hF⟩ := hj
  have HE := Lib.hid (show errOf (ckProg p) = (0, 0, 0) by unfold errOf; rw [if_pos HCK.out])
  rw [HE.out]
  dsimp only
  have hl1 := (Array.getElem?_eq_some_iff.1 HB1.out).1
  have hb0 := (HG2.out.block _ (Array.getElem?_eq_some_iff.1 HB0.out).1 (by simp)).trans HB0.out
  have hb1 := (HG2.out.block _ hl1 (by simp)).trans HB1.out
  have HGG := Lib.hid (grown_trans HG0.out HG2.out)
  have HG := Lib.hid hG; have HF := Lib.hid hF; have HBP := Lib.hid hb0; have HBR := Lib.hid hb1
  clear hG hF hb0 hb1
  go_upto_region 4 with (fail)
  have hg3 : w.grownBy ((w2.alloc (.cells #[.map (some G), .map (some F)] 81)).alloc (.cells #[.int .i64 0, .int .i64 0, .int .i64 0] 67)) none := grown_trans (grown_trans HGG.out (grown_alloc _ _)) (grown_alloc _ _)
  have hl0 := (Array.getElem?_eq_some_iff.1 HBP.out).1
  have hb3 : ((w2.alloc (.cells #[.map (some G), .map (some F)] 81)).alloc (.cells #[.int .i64 0, .int .i64 0, .int .i64 0] 67)).heap[w.heap.size]? = some (.cells #[.slice a1 a2 a3, .slice b1 b2 b3] 25 (0, 0)) := alloc_past _ _ _ _ (by simp; omega) (alloc_past _ _ _ _ hl0 HBP.out)
  have hb4 : ((w2.alloc (.cells #[.map (some G), .map (some F)] 81)).alloc (.cells #[.int .i64 0, .int .i64 0, .int .i64 0] 67)).heap[w.heap.size + 1]? = some (.cells zeroR 33 (0, 0)) := alloc_past _ _ _ _ (by simp; omega) (alloc_past _ _ _ _ (by have := (Array.getElem?_eq_some_iff.1 HBR.out).1; omega) HBR.out)
  have hb5 : ((w2.alloc (.cells #[.map (some G), .map (some F)] 81)).alloc (.cells #[.int .i64 0, .int .i64 0, .int .i64 0] 67)).heap[w2.heap.size]? = some (.cells #[.map (some G), .map (some F)] 81 (0, 0)) := alloc_past _ _ _ _ (by simp) (alloc_at _ _ _ rfl)
  have hG3 : NM 3 ((w2.alloc (.cells #[.map (some G), .map (some F)] 81)).alloc (.cells #[.int .i64 0, .int .i64 0, .int .i64 0] 67)) G (ckProg p).gm := HG.out.keep (by rw [Below.heap_alloc _ _ _ (by have := HG.out.lt; simp; omega), Below.heap_alloc _ _ _ HG.out.lt])
  have hF3 : NM 3 ((w2.alloc (.cells #[.map (some G), .map (some F)] 81)).alloc (.cells #[.int .i64 0, .int .i64 0, .int .i64 0] 67)) F (ckProg p).fm := HF.out.keep (by rw [Below.heap_alloc _ _ _ (by have := HF.out.lt; simp; omega), Below.heap_alloc _ _ _ HF.out.lt])
  have hl3 : w2.heap.size < ((w2.alloc (.cells #[.map (some G), .map (some F)] 81)).alloc (.cells #[.int .i64 0, .int .i64 0, .int .i64 0] 67)).heap.size := by simp; omega
  have hl4 : w.heap.size + 1 < w2.heap.size := (Array.getElem?_eq_some_iff.1 HBR.out).1
  generalize ((w2.alloc (.cells #[.map (some G), .map (some F)] 81)).alloc (.cells #[.int .i64 0, .int .i64 0, .int .i64 0] 67)) = W3 at *
  have HG3 := Lib.hid hg3; have HP3 := Lib.hid hb3; have HR3 := Lib.hid hb4; have HI3 := Lib.hid hb5; have HGM := Lib.hid hG3; have HFM := Lib.hid hF3
  obtain ⟨⟨p0, p1⟩, _, _⟩ := two hb3
  obtain ⟨⟨i0, i1⟩, _, _⟩ := two hb5
  have hlt1 : w.heap.size < W3.heap.size := by omega
  clear hg3 hb3 hb4 hb5 hG3 hF3
  have HKEEP := Lib.hid (show ∀ w', W3.grownBy w' none → W3.heap.size ≤ w'.heap.size ∧ w'.heap[w.heap.size]? = some (.cells #[.slice a1 a2 a3, .slice b1 b2 b3] 25 (0, 0)) ∧ w'.heap[w.heap.size + 1]? = some (.cells zeroR 33 (0, 0)) ∧ w'.heap[w2.heap.size]? = some (.cells #[.map (some G), .map (some F)] 81 (0, 0)) ∧ NM 3 w' F (ckProg p).fm ∧ w.grownBy w' none from fun w' hw =>
    ⟨hw.size, (hw.block _ hlt1 (by simp)).trans HP3.out, (hw.block _ (by omega) (by simp)).trans HR3.out, (hw.block _ hl3 (by simp)).trans HI3.out, HFM.out.keep (hw.block F HFM.out.lt (by simp)), grown_trans HG3.out hw⟩)
  have HLF := Lib.hid (show ∀ W', W3.grownBy W' none → Calls Tryz.prog 26 #[.agg #[.slice a1 a2 a3, .slice b1 b2 b3], .agg #[.map (some G), .map (some F)]] W' (LPost (planOf p (ckProg p).gm (ckProg p).fm) W') from fun W' hW =>
    laidFlat_any HFIT.out HGD.out (HAT.out.keep (grown_trans HG3.out hW).size (fun q _ hq => Nat.lt_of_lt_of_le hq (grown_trans HG3.out hW).size) (fun q _ hq o => World.cell?_of_block ((grown_trans HG3.out hW).block q hq (by simp)))) (HGM.out.keep (hW.block G HGM.out.lt (by simp))) (HFM.out.keep (hW.block F HFM.out.lt (by simp))))
  have HSA := Lib.hid (show ∀ W', W3.grownBy W' none → Calls Tryz.prog 27 #[.agg #[.slice a1 a2 a3, .slice b1 b2 b3], .slice ia ins.length icap] W' (fun e w' => ∃ mg gs, e = .returned (.slice (some ⟨mg, 0, none⟩) p.globals.length p.globals.length) ∧ W'.grownBy w' none ∧ MemIn W'.heap.size mg gs (startL p.globals ins) p.globals.length w' ∧ gs.length = p.globals.length) from fun W' hW =>
    start_any HN.out (HAT.out.keep (grown_trans HG3.out hW).size (fun q _ hq => Nat.lt_of_lt_of_le hq (grown_trans HG3.out hW).size) (fun q _ hq o => World.cell?_of_block ((grown_trans HG3.out hW).block q hq (by simp)))) ins _ (by
      obtain ⟨a, cap, h0, h1, h2, h3⟩ := HIN.out.keep (grown_trans HG3.out hW).size (fun q hq _ => (grown_trans HG3.out hW).block q hq (by simp))
      exact ⟨a, cap, h0, h1, h2, fun hne => by
        obtain ⟨g, o, h4, h5, h6, h7⟩ := h3 hne
        exact ⟨g, o, h4, h6, h6, fun i ws hi => by
          obtain ⟨wa, wc, h8, h9, h10⟩ := h7 i ws hi
          exact ⟨wa, wc, h8, h9, fun hw => by obtain ⟨g2, o2, e1, e2, e3, e4⟩ := h10 hw; exact ⟨g2, o2, e1, e3, e3, e4⟩⟩⟩⟩))
  go_region_with ((first | (go_at_call 26; refine (HLF.out _ (by repeat (first | exact grown_refl _ | apply grown_drew))).mono ?_; rintro e w5 ⟨ov, bv, rfl, hg5, ho5, hb5⟩; have hg5' := grown_trans (show W3.grownBy _ none by repeat (first | exact grown_refl _ | apply grown_drew)) hg5; obtain ⟨hz5, hp5, _⟩ := HKEEP.out _ hg5'; obtain ⟨⟨p0, p1⟩, _, _⟩ := two hp5; have hlt5 : w.heap.size < w5.heap.size := (by omega); have HG5 := Lib.hid hg5'; have HO5 := Lib.hid (World.ownsRow.mono (base' := w.heap.size) ho5 (by simp; omega)); have HB5 := Lib.hid (World.ownsRow.mono (base' := w.heap.size) hb5 (by simp; omega)); clear hg5 hg5' ho5 hb5 hp5) | (go_at_call 27; refine (HSA.out _ (by repeat (first | exact HG5.out | apply grown_drew))).mono ?_; rintro e w6 ⟨mg, gs, rfl, hg6, hm6, hgl6⟩; have hg6' := grown_trans (show w5.grownBy _ none by repeat (first | exact grown_refl _ | apply grown_drew)) hg6; have HG6 := Lib.hid hg6'; have HM6 := Lib.hid hm6; have HGL6 := Lib.hid hgl6; have hz6 := hg6'.size; clear hg6 hg6' hm6 hgl6)))
  all_goals
    have hg6 := grown_trans HG5.out HG6.out
    obtain ⟨hk1, hk2, hk3, hk4, hk5, hk6⟩ := HKEEP.out _ hg6
    have hup : ∀ q, q < w5.heap.size → (w6.alloc (.cells #[ov, bv, .int .i64 0, .slice none 0 0, .slice none 0 0, .int .i64 fuel, .int .i64 0, .int .i64 0, .slice none 0 0, .int .i64 0, .int .i64 0, .slice (some ⟨mg, 0, none⟩) p.globals.length p.globals.length, .int .i64 0, .bool false] 93)).heap[q]? = w5.heap[q]? := fun q hq => (Below.heap_alloc _ _ _ (by omega)).trans (HG6.out.block q hq (by simp))
    have hup6 : ∀ q, q < w6.heap.size → (w6.alloc (.cells #[ov, bv, .int .i64 0, .slice none 0 0, .slice none 0 0, .int .i64 fuel, .int .i64 0, .int .i64 0, .slice none 0 0, .int .i64 0, .int .i64 0, .slice (some ⟨mg, 0, none⟩) p.globals.length p.globals.length, .int .i64 0, .bool false] 93)).heap[q]? = w6.heap[q]? := fun q hq => Below.heap_alloc _ _ _ hq
    have hrow : (w6.alloc (.cells #[ov, bv, .int .i64 0, .slice none 0 0, .slice none 0 0, .int .i64 fuel, .int .i64 0, .int .i64 0, .slice none 0 0, .int .i64 0, .int .i64 0, .slice (some ⟨mg, 0, none⟩) p.globals.length p.globals.length, .int .i64 0, .bool false] 93)).heap[mg]? = some (.cells (memCells gs (startL p.globals ins)).toArray 59 (0, 0)) := by
      have h := HM6.out.row
      rw [HGL6.out, Nat.sub_self, List.replicate_zero, List.append_nil] at h
      exact (hup6 mg (Array.getElem?_eq_some_iff.1 h).1).trans h
    have hrn : Runs w.heap.size w6.heap.size ov bv mg gs ⟨.slice none 0 0, .slice none 0 0, .slice none 0 0⟩ (rn0 p ins fuel) (w6.alloc (.cells #[ov, bv, .int .i64 0, .slice none 0 0, .slice none 0 0, .int .i64 fuel, .int .i64 0, .int .i64 0, .slice none 0 0, .int .i64 0, .int .i64 0, .slice (some ⟨mg, 0, none⟩) p.globals.length p.globals.length, .int .i64 0, .bool false] 93)) :=
      ⟨by rw [show cellsRn ov bv mg gs.length ⟨.slice none 0 0, .slice none 0 0, .slice none 0 0⟩ (rn0 p ins fuel) = #[ov, bv, .int .i64 0, .slice none 0 0, .slice none 0 0, .int .i64 fuel, .int .i64 0, .int .i64 0, .slice none 0 0, .int .i64 0, .int .i64 0, .slice (some ⟨mg, 0, none⟩) p.globals.length p.globals.length, .int .i64 0, .bool false] by rw [HGL6.out]; rfl]; exact alloc_at _ _ _ rfl,
       own_keep HO5.out (fun q hq => hup q (HO5.out.lt q hq).2), own_keep HB5.out (fun q hq => hup q (HB5.out.lt q hq).2), World.ownsRow_nil _ _ _ _, World.ownsRow_nil _ _ _ _, World.ownsRow_nil _ _ _ _, hrow, HM6.out.same,
       fun i g ws h1 h2 => by have h3 := HM6.out.words i g ws h1 h2; exact (hup6 g (Array.getElem?_eq_some_iff.1 h3).1).trans h3,
       HM6.out.nod, (fun q hq => by cases hq), by omega, fun q hq => by have := HM6.out.low.2 q hq; omega⟩
    have hgW : w.grownBy (w6.alloc (.cells #[ov, bv, .int .i64 0, .slice none 0 0, .slice none 0 0, .int .i64 fuel, .int .i64 0, .int .i64 0, .slice none 0 0, .int .i64 0, .int .i64 0, .slice (some ⟨mg, 0, none⟩) p.globals.length p.globals.length, .int .i64 0, .bool false] 93)) none := grown_trans hk6 (grown_alloc _ _)
    have hbI := (hup6 w2.heap.size (by omega)).trans hk4
    have hbR := (hup6 (w.heap.size + 1) (by omega)).trans hk3
    have hFW : NM 3 (w6.alloc (.cells #[ov, bv, .int .i64 0, .slice none 0 0, .slice none 0 0, .int .i64 fuel, .int .i64 0, .int .i64 0, .slice none 0 0, .int .i64 0, .int .i64 0, .slice (some ⟨mg, 0, none⟩) p.globals.length p.globals.length, .int .i64 0, .bool false] 93)) F (ckProg p).fm := hk5.keep (hup6 F hk5.lt)
    have hszW : (w6.alloc (.cells #[ov, bv, .int .i64 0, .slice none 0 0, .slice none 0 0, .int .i64 fuel, .int .i64 0, .int .i64 0, .slice none 0 0, .int .i64 0, .int .i64 0, .slice (some ⟨mg, 0, none⟩) p.globals.length p.globals.length, .int .i64 0, .bool false] 93)).heap.size = w6.heap.size + 1 := by simp
    have HXL := Lib.hid (show ∀ q, RX w6.heap.size ⟨.slice none 0 0, .slice none 0 0, .slice none 0 0⟩ gs q → w5.heap.size ≤ q from fun q hq => by
      rcases hq with rfl | (hq | hq | hq) | hq
      · omega
      · cases hq
      · cases hq
      · cases hq
      · exact HM6.out.low.2 q hq)
    have l2 := hFW.get wInt uMapI (x := mainL) (by decide)
    rw [show mainL.toArray = #[109, 97, 105, 110] from rfl] at l2
    obtain ⟨r1, hi1, hrun1⟩ : ∃ r1, (rn0 p ins fuel).into ((look (ckProg p).fm mainL).getD 0) = some r1 ∧ goes k r1 = some rz := by
      have h := HRUN.out
      unfold runL at h
      split at h
      · exact ⟨_, by assumption, h⟩
      · cases h
    generalize (look (ckProg p).fm mainL).getD 0 = f0 at *
    generalize (w6.alloc (.cells #[ov, bv, .int .i64 0, .slice none 0 0, .slice none 0 0, .int .i64 fuel, .int .i64 0, .int .i64 0, .slice none 0 0, .int .i64 0, .int .i64 0, .slice (some ⟨mg, 0, none⟩) p.globals.length p.globals.length, .int .i64 0, .bool false] 93)) = W6 at *
    obtain ⟨⟨i0, i1⟩, _, _⟩ := two hbI
    have hltI : w2.heap.size < W6.heap.size := by omega
    have HRN := Lib.hid hrn; have HGW := Lib.hid hgW; have HBR6 := Lib.hid hbR; have HI1 := Lib.hid hi1; have HRUN1 := Lib.hid hrun1
    clear hk1 hk2 hk3 hk4 hk5 hk6 hup hup6 hrow hrn hgW hbI hbR hFW hi1 hrun1 hg6
    go_wp2_with (fail)
  all_goals
    refine (into_any HRN.out (by simp [rn0]) (by simp [rn0]) (by simp [rn0]) f0 HI1.out).mono ?_
    rintro e w7 ⟨rfl, v7, ht7, hr7⟩
    have HT7 := Lib.hid ht7; have HR7 := Lib.hid hr7
    obtain ⟨fm, hfm⟩ := least_of (fun n wr => ∃ v r, goes n r = some rz ∧ WentR w6.heap.size gs ⟨.slice none 0 0, .slice none 0 0, .slice none 0 0⟩ v W6 wr ∧ Runs w.heap.size w6.heap.size ov bv mg gs v r wr)
    have HFM2 := Lib.hid hfm
    clear ht7 hr7 hfm
    go_wp2_with (fail)
    go_loopw [] (fun wr => ∃ n v r, goes n r = some rz ∧ WentR w6.heap.size gs ⟨.slice none 0 0, .slice none 0 0, .slice none 0 0⟩ v W6 wr ∧ Runs w.heap.size w6.heap.size ov bv mg gs v r wr) (fun wr => fm wr)
    case atStart => exact ⟨k, v7, r1, HRUN1.out, HT7.out, HR7.out⟩
    case round =>
      obtain ⟨n0, hn0⟩ := hrel
      obtain ⟨⟨v, r, hgo, ht, hr⟩, _⟩ := HFM2.out wr n0 hn0
      have HT := Lib.hid ht; have HR := Lib.hid hr; have HGO := Lib.hid hgo
      have hlt := hr.lt
      obtain ⟨⟨_, _, _, _, _, _, c6, c7, c8, c9, c10, c11, c12, c13⟩, hfz⟩ := hr.open
      cases he : r.ended with
      | false =>
        rw [he] at c13
        obtain ⟨m, q, hm, hok, hd, hgm⟩ := goes_more hgo he
        have HOK := Lib.hid hok; have HD := Lib.hid hd; have HGM2 := Lib.hid hgm; have HM := Lib.hid hm
        clear ht hr hgo hfz hn0 hok hd hgm he hm
        go_wp2_with (fail)
        refine (follow_any HR.out HOK.out HD.out).mono ?_
        rintro e w9 ⟨rfl, v9, ht9, hr9⟩
        have HT9 := Lib.hid (HT.out.trans ht9); have HR9 := Lib.hid hr9
        clear ht9 hr9
        go_wp2_with (fail)
        go_roundw
        case rel => exact ⟨m, v9, q, HGM2.out, HT9.out, HR9.out⟩
        case measure => have := (HFM2.out w9 m ⟨v9, q, HGM2.out, HT9.out, HR9.out⟩).2; have := HM.out; omega
      | true =>
        rw [he] at c13
        obtain rfl := goes_end hgo he
        have hszr := ht.turn.size
        have hbr : wr.heap[w.heap.size + 1]? = some (.cells zeroR 33 (0, 0)) := (ht.turn.block (w.heap.size + 1) (by omega) (fun hx => by have := HXL.out _ hx; omega)).trans HBR6.out
        have hgr : w.grownBy wr none := ⟨ht.turn.os.trans HGW.out.os, ht.turn.tape.trans HGW.out.tape, ht.turn.output.trans HGW.out.output, by omega, fun q hq _ => (ht.turn.block q (by omega) (fun hx => by have := HXL.out _ hx; omega)).trans (HGW.out.block q hq (by simp))⟩
        have HGR := Lib.hid hgr; have HBR9 := Lib.hid hbr
        obtain ⟨⟨r0, r1', r2, r3, r4, r5⟩, rf⟩ := six hbr
        have g0 := rf 0; have g1 := rf 1; have g2 := rf 2; have g3 := rf 3; have g4 := rf 4; have g5 := rf 5
        have hl9 : w.heap.size + 1 < wr.heap.size := by omega
        have z6 := hfz 6; have z7 := hfz 7; have z8 := hfz 8; have z9 := hfz 9; have z10 := hfz 10; have z11 := hfz 11; have z12 := hfz 12
        have HMG := Lib.hid HM6.out.low.1
        clear ht hr hgo hfz hn0 rf hgr hbr
        by_cases hfa : r.fault = 0
        · have HFA := Lib.hid hfa
          rw [hfa] at c12
          obtain ⟨lva, lvc, hlv, _⟩ := own_slice HR.out.leaks
          have HLK := Lib.hid (show wr.ownsRow w.heap.size 64 3 (.slice lva r.leaks.length lvc) r.leaks.length (lkCells r.leaks) by rw [← hlv]; exact HR.out.leaks)
          clear hfa
          go_wp2_with (fail)
          all_goals
            have hg9 := grown6 (show w.heap.size ≤ w.heap.size + 1 by omega) HGR.out (.int .i64 r.val) (.int .i64 r.trap) (.slice lva r.leaks.length lvc) (.int .i64 r.steps) (.int .i64 r.deep) (.slice (some ⟨mg, 0, none⟩) gs.length gs.length)
            have hb9 := set6 HBR9.out (.int .i64 r.val) (.int .i64 r.trap) (.slice lva r.leaks.length lvc) (.int .i64 r.steps) (.int .i64 r.deep) (.slice (some ⟨mg, 0, none⟩) gs.length gs.length)
            have hk9 : ∀ q, q ≠ w.heap.size + 1 → ((((((wr.setCell ⟨w.heap.size + 1, 0, none⟩ (.int .i64 r.val)).setCell ⟨w.heap.size + 1, 1, none⟩ (.int .i64 r.trap)).setCell ⟨w.heap.size + 1, 2, none⟩ (.slice lva r.leaks.length lvc)).setCell ⟨w.heap.size + 1, 3, none⟩ (.int .i64 r.steps)).setCell ⟨w.heap.size + 1, 4, none⟩ (.int .i64 r.deep)).setCell ⟨w.heap.size + 1, 5, none⟩ (.slice (some ⟨mg, 0, none⟩) gs.length gs.length)).heap[q]? = wr.heap[q]? := fun q hq => kept6 hq (.int .i64 r.val) (.int .i64 r.trap) (.slice lva r.leaks.length lvc) (.int .i64 r.steps) (.int .i64 r.deep) (.slice (some ⟨mg, 0, none⟩) gs.length gs.length)
            clear r0 r1' r2 r3 r4 r5 g0 g1 g2 g3 g4 g5
            generalize ((((((wr.setCell ⟨w.heap.size + 1, 0, none⟩ (.int .i64 r.val)).setCell ⟨w.heap.size + 1, 1, none⟩ (.int .i64 r.trap)).setCell ⟨w.heap.size + 1, 2, none⟩ (.slice lva r.leaks.length lvc)).setCell ⟨w.heap.size + 1, 3, none⟩ (.int .i64 r.steps)).setCell ⟨w.heap.size + 1, 4, none⟩ (.int .i64 r.deep)).setCell ⟨w.heap.size + 1, 5, none⟩ (.slice (some ⟨mg, 0, none⟩) gs.length gs.length)) = W9 at *
            obtain ⟨⟨r0, r1', r2, r3, r4, r5⟩, _⟩ := six hb9
            refine bodyPost_ret (v := .tuple #[.agg #[.int .i64 r.val, .int .i64 r.trap, .slice lva r.leaks.length lvc, .int .i64 r.steps, .int .i64 r.deep, .slice (some ⟨mg, 0, none⟩) gs.length gs.length], .int .i64 0]) (by simp [results, Tryz.results13, go_sem, r0, r1', r2, r3, r4, r5]) rfl ?_
            refine ⟨by first | exact hg9 | exact grown_drew hg9, .inr ⟨HFA.out, _, rfl, ⟨_, mg, gs, rfl, own_keep HLK.out (fun q hq => hk9 q (own_ne HLK.out HBR9.out (by decide) q hq)), ?_⟩⟩⟩
            refine ⟨?_, HR.out.same, fun i g ws h1 h2 => ?_, HR.out.nod, by have := HMG.out; omega, HR.out.low.2⟩
            · rw [Nat.sub_self, List.replicate_zero, List.append_nil]
              exact (hk9 mg (fun e => by have h1 := HR.out.mem; rw [e] at h1; exact absurd (elem_of h1 HBR9.out) (by decide))).trans HR.out.mem
            · have h3 := HR.out.words i g ws h1 h2
              exact (hk9 g (fun e => by rw [e] at h3; exact absurd (elem_of h3 HBR9.out) (by decide))).trans h3
        · have q0 : (r.fault != 0) = true := by simpa using hfa
          have HFA := Lib.hid hfa
          clear hfa
          go_wp2_with (fail)
          go_region
          all_goals go_wp2_with (fail)
          all_goals
            have hg9 := grown6 (show w.heap.size ≤ w.heap.size + 1 by omega) HGR.out (.int .i64 0) (.int .i64 0) (.slice none 0 0) (.int .i64 0) (.int .i64 0) (.slice none 0 0)
            have hb9 := set6 HBR9.out (.int .i64 0) (.int .i64 0) (.slice none 0 0) (.int .i64 0) (.int .i64 0) (.slice none 0 0)
            clear r0 r1' r2 r3 r4 r5 g0 g1 g2 g3 g4 g5
            generalize ((((((wr.setCell ⟨w.heap.size + 1, 0, none⟩ (.int .i64 0)).setCell ⟨w.heap.size + 1, 1, none⟩ (.int .i64 0)).setCell ⟨w.heap.size + 1, 2, none⟩ (.slice none 0 0)).setCell ⟨w.heap.size + 1, 3, none⟩ (.int .i64 0)).setCell ⟨w.heap.size + 1, 4, none⟩ (.int .i64 0)).setCell ⟨w.heap.size + 1, 5, none⟩ (.slice none 0 0)) = W9 at *
            obtain ⟨⟨r0, r1', r2, r3, r4, r5⟩, _⟩ := six hb9
            refine bodyPost_ret (v := .tuple #[.agg zeroR, .int .i64 r.fault]) (by simp [results, Tryz.results13, go_sem, zeroR, r0, r1', r2, r3, r4, r5]) rfl ?_
            exact ⟨by first | exact hg9 | exact grown_drew hg9, .inl ⟨HFA.out, rfl⟩⟩
end Go.Proofs.YtaomlahphlemdaaGreatDoor
