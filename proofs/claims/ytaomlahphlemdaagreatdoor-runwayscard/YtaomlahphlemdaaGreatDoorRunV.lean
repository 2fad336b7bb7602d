/-
  The runner: enter.
-/
import Derived.Test.YtaomlahphlemdaaGreatDoorRunU
namespace Go.Proofs.YtaomlahphlemdaaGreatDoor
open Go.ChangeShapes Go.WideShapes Go.ChangeAt Go.RowKit
set_option linter.unusedVariables false

set_option maxHeartbeats 8000000 in
set_option maxRecDepth 100000 in
theorem enter_ok {B Rb : Nat} {ov bv : Value} {mg : Nat} {gs : List Nat} {v : RV} {r : Rn} {w : World} (h : Runs B Rb ov bv mg gs v r w) (hd : r.calls.length < 2000) (f : Nat) (hf : f < r.bodies.length) (st pn wn : Nat) (hb : r.bodies[f] = ⟨(st : Int), (pn : Int), (wn : Int)⟩) (hpw : pn ≤ wn) (hpl : pn ≤ r.pile.length) (hwn : wn ≤ 1099511627776) (hst : st ≤ 1099511627776) (hz : r.pile.length ≤ 1099511627776) (hnx : r.next ≤ 1099511627776) (r' : Rn)
    (hr' : r' = { r with calls := r.calls ++ [(r.pile.length - pn, r.next)], deep := max r.deep ((r.calls.length + 1 : Nat) : Int), pile := r.pile ++ List.replicate (wn - pn) 0, next := st }) :
    Calls Tryz.prog 28 #[.pointer (some ⟨Rb, 0, none⟩), .int .i64 (f : Int)] w (RPost B Rb ov bv mg gs v r' (.tuple #[]) w) := by
  obtain ⟨pv, cv, lv⟩ := v
  obtain ⟨i0, hi, hz0⟩ := Option.map_eq_some_iff.1 infoCall
  obtain ⟨h1, h2, h3⟩ : i0.zero = some (.agg #[.int .i64 0, .int .i64 0]) ∧ i0.size = 2 ∧ i0.bytes = 16 := by simpa using hz0
  have HI := Lib.hid hi; have HZ0 := Lib.hid h1; have HZ1 := Lib.hid h2; have HZ2 := Lib.hid h3
  have HR := Lib.hid h; have HRR := Lib.hid hr'
  have hlt := h.lt
  have hlowB := h.low.1
  obtain ⟨⟨_, c1, c2, c3, c4, _⟩, hfz⟩ := h.open
  obtain ⟨ca, ccap, hcv, _⟩ := own_slice h.calls
  obtain ⟨pa, pcap, hpv, _⟩ := own_slice h.pile
  obtain ⟨bg, bcap, rfl, hbcap, hbmx, hbl, x0, x1, x2⟩ := h.bodyAt f hf
  rw [hb] at x0 x1 x2
  dsimp only at hcv hpv c3 c4 x0 x1 x2
  subst hcv
  subst hpv
  have q1 : decide ((2000 : Int) ≤ (r.calls.length : Int)) = false := by simp; omega
  have q2 : decide (2000 ≤ r.calls.length) = false := by simpa using hd
  clear h hfz hb hr' hi h1 h2 h3 hz0
  go_enter Tryz.func28, Tryz.ntmps28
  go_upto_region 3 with (fail)
  have HW0 := Lib.hid (HR.out.alloc (.cells #[.int .i64 (st : Int), .int .i64 (pn : Int), .int .i64 (wn : Int)] 115))
  have HT0 := Lib.hid (show WentR Rb gs ⟨.slice pa r.pile.length pcap, .slice ca r.calls.length ccap, lv⟩ ⟨.slice pa r.pile.length pcap, .slice ca r.calls.length ccap, lv⟩ w (w.alloc (.cells #[.int .i64 (st : Int), .int .i64 (pn : Int), .int .i64 (wn : Int)] 115)) from (WentR.refl _ _ _ _).alloc _)
  have HBX := Lib.hid (fun (v' : RV) (w' : World) (ht : WentR Rb gs ⟨.slice pa r.pile.length pcap, .slice ca r.calls.length ccap, lv⟩ v' (w.alloc (.cells #[.int .i64 (st : Int), .int .i64 (pn : Int), .int .i64 (wn : Int)] 115)) w') => three (HR.out.box ht.turn))
  have hsz : w.heap.size < (w.alloc (.cells #[.int .i64 (st : Int), .int .i64 (pn : Int), .int .i64 (wn : Int)] 115)).heap.size := by simp
  have hzW : Rb < (w.alloc (.cells #[.int .i64 (st : Int), .int .i64 (pn : Int), .int .i64 (wn : Int)] 115)).heap.size := by simp; omega
  generalize w.alloc (.cells #[.int .i64 (st : Int), .int .i64 (pn : Int), .int .i64 (wn : Int)] 115) = W at *
  have b1 : IntKind.i64.wrap ((r.pile.length : Int) - (pn : Int)) = ((r.pile.length - pn : Nat) : Int) := by rw [IntWalk.i64_in _ (by omega)]; omega
  have HMX := Lib.hid (show cellsRn ov (.slice (some ⟨bg, 0, none⟩) r.bodies.length bcap) mg gs.length ⟨.slice pa r.pile.length pcap, .slice ca r.calls.length ccap, lv⟩ r = cellsRn ov (.slice (some ⟨bg, 0, none⟩) r.bodies.length bcap) mg gs.length ⟨.slice pa r.pile.length pcap, .slice ca r.calls.length ccap, lv⟩ r from rfl)
  clear c1 c2 c3 c4 x0 x1 x2 q1 q2 HMX
  go_cut [] from 21 to 42 (fun wx => ∃ cv', WentR Rb gs ⟨.slice pa r.pile.length pcap, .slice ca r.calls.length ccap, lv⟩ ⟨.slice pa r.pile.length pcap, cv', lv⟩ W wx ∧ Runs B Rb ov (.slice (some ⟨bg, 0, none⟩) r.bodies.length bcap) mg gs ⟨.slice pa r.pile.length pcap, cv', lv⟩ { r with calls := r.calls ++ [(r.pile.length - pn, r.next)] } wx)
  case first =>
    obtain ⟨⟨_, _, c2, c3, c4, _⟩, hfz⟩ := HW0.out.open
    have f4 := hfz 4
    obtain ⟨⟨y0, y1, y2⟩, _, _, _⟩ := HBX.out _ _ (WentR.refl _ _ _ _)
    dsimp only at c3 c4
    clear hfz
    go_region_law (first | (refine step_append_lies _ rfl _ _ 91 rfl B 117 i0 (.agg #[.int .i64 0, .int .i64 0]) 2 16 Tryz.underlying91 HI.out HZ0.out HZ1.out HZ2.out rfl (by decide) (.slice ca r.calls.length ccap) r.calls.length (caCells r.calls) rfl ?hown ⟨W.heap.size, 0, none⟩ 1 1 [.int .i64 ((r.pile.length - pn : Nat) : Int), .int .i64 (r.next : Int)] rfl rfl ?hnews (od_one _ _) (by decide) ?h63 ?hby ?hba (W.heap.size + 1) ?hH ?_; (case hown => exact HW0.out.drew.calls.alloc _); (case hnews => exact cells_at _ [.int .i64 ((r.pile.length - pn : Nat) : Int), .int .i64 (r.next : Int)] _ _ rfl); (case h63 => unfold maxLen; omega); (case hby => omega); (case hba => simp; omega); (case hH => simp); intro gb gc2 wB hown hgrow hat hlt2; have HFIN := Lib.hid ((HW0.out.drew.alloc _).called (.slice (some ⟨gb, 0, none⟩) (r.calls.length + 1) gc2) (r.calls ++ [(r.pile.length - pn, r.next)]) hgrow (by rw [List.length_append, caCells_snoc]; exact hown) (fun q hq => by cases hq; exact hat.elim .inl (fun h => .inr (by show _ ≤ gb; simp; omega)))); have xx1 : wB.cell? ⟨Rb, 4, none⟩ = some (.slice ca r.calls.length ccap) := (World.cell?_of_block (hgrow.block Rb (by simp; omega) (fun e => own_ne HW0.out.calls HW0.out.blk (by decide) _ e.symm rfl))).trans ((World.cell?_of_block (Below.heap_alloc W.drew _ Rb hzW)).trans c4); have xx2 : wB.frozen? ⟨Rb, 4, none⟩ = false := (World.frozen?_of_block (hgrow.block Rb (by simp; omega) (fun e => own_ne HW0.out.calls HW0.out.blk (by decide) _ e.symm rfl))).trans ((World.frozen?_of_block (Below.heap_alloc W.drew _ Rb hzW)).trans f4); have xx3 : Rb < wB.heap.size := (by have := hgrow.size; simp at this; omega); clear hown hgrow hat))
    all_goals go_wp2_with (fail)
    all_goals go_meet
    all_goals
      case rel => exact ⟨_, ((WentR.refl _ _ _ _).drew.alloc _).trans HFIN.out.2, HFIN.out.1⟩
  case rest =>
    obtain ⟨cv3, ht3, hr3⟩ := hcut
    obtain ⟨ca3, cc3, hcv3, _⟩ := own_slice hr3.calls
    dsimp only at hcv3
    have e3 : (r.calls ++ [(r.pile.length - pn, r.next)]).length = r.calls.length + 1 := by simp
    rw [e3] at hcv3
    subst hcv3
    have HT3 := Lib.hid ht3; have HR3 := Lib.hid hr3
    clear ht3 hr3 e3
    go_wp2_with (fail)
    go_cut [] from 43 to 57 (fun wx => WentR Rb gs ⟨.slice pa r.pile.length pcap, .slice ca r.calls.length ccap, lv⟩ ⟨.slice pa r.pile.length pcap, .slice ca3 (r.calls.length + 1) cc3, lv⟩ W wx ∧ Runs B Rb ov (.slice (some ⟨bg, 0, none⟩) r.bodies.length bcap) mg gs ⟨.slice pa r.pile.length pcap, .slice ca3 (r.calls.length + 1) cc3, lv⟩ { r with calls := r.calls ++ [(r.pile.length - pn, r.next)], deep := max r.deep ((r.calls.length : Int) + 1) } wx)
    case first =>
      have hr3 := HR3.out
      have hl3 := hr3.lt
      obtain ⟨⟨_, _, _, _, c4, _, _, _, _, _, c10, _⟩, hfz⟩ := hr3.open
      have f10 := hfz 10
      dsimp only at c4 c10
      have HD := Lib.hid (fun z => hr3.drew.cell 10 (.int .i64 z) { r with calls := r.calls ++ [(r.pile.length - pn, r.next)], deep := z } rfl rfl rfl rfl rfl rfl rfl)
      clear hfz hr3
      go_region
      all_goals go_wp2_with (fail)
      all_goals go_meet
      all_goals
        case rel => exact ⟨HT3.out.drew.trans (HD.out (max r.deep ((r.calls.length : Int) + 1))).2, (HD.out (max r.deep ((r.calls.length : Int) + 1))).1⟩
    case rest =>
      obtain ⟨ht4, hr4⟩ := hcut
      have hl4 := hr4.lt
      obtain ⟨⟨_, _, d2, d3, _⟩, hfz⟩ := hr4.open
      have f2 := hfz 2; have f3 := hfz 3
      dsimp only at d3
      obtain ⟨⟨y0, y1, y2⟩, _, _, _⟩ := HBX.out _ _ ht4
      have hb4 : w.heap.size < wc.heap.size := by have := ht4.turn.size; omega
      have b2 : IntKind.i64.wrap ((wn : Int) - (pn : Int)) = ((wn - pn : Nat) : Int) := by rw [IntWalk.i64_in _ (by omega)]; omega
      obtain ⟨pv5, w5, hrun, hown5, hgr5, hat5⟩ := run_append_zeros (w := wc.drew) hr4.drew.pile (wn - pn) 59 (by show B ≤ wc.heap.size; omega) (by show r.pile.length + (wn - pn) ≤ _; omega)
      obtain ⟨hr5, ht5⟩ := hr4.drew.piled pv5 (r.pile ++ List.replicate (wn - pn) 0) hgr5 (by
        rw [List.length_append, List.length_replicate, List.map_append, List.map_replicate]; exact hown5) hat5
      obtain ⟨a5, cap5, hpv5, _⟩ := own_slice hown5
      subst hpv5
      have hne : ∀ q, (Value.slice pa r.pile.length pcap).ownBlock = some q → q ≠ Rb := hr4.notRb.2.2.1
      have g3 : w5.cell? ⟨Rb, 3, none⟩ = some (.slice pa r.pile.length pcap) := (World.cell?_of_block (hgr5.block Rb hl4 (fun e => hne _ e.symm rfl))).trans d3
      have k3 : w5.frozen? ⟨Rb, 3, none⟩ = false := (World.frozen?_of_block (hgr5.block Rb hl4 (fun e => hne _ e.symm rfl))).trans f3
      have hl5 : Rb < w5.heap.size := by have := hgr5.size; simp at this; omega
      have hb5 : w.heap.size < w5.heap.size := by have := hgr5.size; simp at this; omega
      have hpq : ∀ q, (Value.slice pa r.pile.length pcap).ownBlock = some q → q < w.heap.size := fun q hq => (HR.out.pile.lt q hq).2
      have z0 : w5.cell? ⟨w.heap.size, 0, none⟩ = some (.int .i64 (st : Int)) := (World.cell?_of_block (hgr5.block w.heap.size hb4 (fun e => by have := hpq _ e.symm; omega))).trans y0
      have g2 : w5.cell? ⟨Rb, 2, none⟩ = some (.int .i64 (r.next : Int)) := (World.cell?_of_block (hgr5.block Rb hl4 (fun e => hne _ e.symm rfl))).trans d2
      have k2 : w5.frozen? ⟨Rb, 2, none⟩ = false := (World.frozen?_of_block (hgr5.block Rb hl4 (fun e => hne _ e.symm rfl))).trans f2
      obtain ⟨hr6, ht6⟩ := hr5.cell 2 (.int .i64 (st : Int)) { r with calls := r.calls ++ [(r.pile.length - pn, r.next)], deep := max r.deep ((r.calls.length : Int) + 1), pile := r.pile ++ List.replicate (wn - pn) 0, next := st } rfl rfl rfl rfl rfl rfl rfl
      have HR6 := Lib.hid hr6; have HT6 := Lib.hid ((ht4.drew.trans ht5).trans ht6)
      have HRUN := Lib.hid hrun
      clear hr4 ht4 hfz hown5 hgr5 hat5 hr5 ht5 hr6 ht6 hne hrun hpq
      go_wp2_with (fail)
      go_region_law (first | (refine step_append_run rfl _ _ 59 3 rfl (.slice pa r.pile.length pcap) (.int .i64 ((wn - pn : Nat) : Int)) rfl rfl _ w5 HRUN.out ?_))
      all_goals go_wp2_with (fail)
      all_goals go_end0
      all_goals exact ⟨rfl, _, HT0.out.trans HT6.out, by rw [HRR.out, show ((r.calls.length + 1 : Nat) : Int) = (r.calls.length : Int) + 1 from rfl]; exact HR6.out⟩
end Go.Proofs.YtaomlahphlemdaaGreatDoor
