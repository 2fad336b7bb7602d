/-
  The runner: follow: words of a call, words and arrays.
-/
import Derived.Test.YtaomlahphlemdaaGreatDoorRunZ
namespace Go.Proofs.YtaomlahphlemdaaGreatDoor
open Go.ChangeShapes Go.WideShapes Go.ChangeAt Go.RowKit
set_option linter.unusedVariables false

set_option maxHeartbeats 8000000 in
set_option maxRecDepth 100000 in
theorem follow_getLocal {B Rb : Nat} {ov bv : Value} {mg : Nat} {gs : List Nat} {v : RV} {r : Rn} {w : World} (h : Runs B Rb ov bv mg gs v r w) (hnx : r.next ≤ 1099511627776) (n : Int) (j : Nat) (hn : n = (j : Int)) (ho : r.orders[r.next]? = some ⟨2, n⟩) (r0 r' : Rn) (hr0 : r0 = { r with next := r.next + 1 }) (hp : r0.pile.length ≤ 1099511627776) (cs : List (Nat × Nat)) (c : Nat × Nat) (hc : r0.calls = cs ++ [c]) (hcl : cs.length ≤ 1099511627776) (hc1 : c.1 ≤ 1099511627776) (hj : j ≤ 1099511627776) (y : Int) (hy : r0.pile[c.1 + j]? = some y) (hres : r' = r0.lay y) :
    Calls Tryz.prog 29 #[.pointer (some ⟨Rb, 0, none⟩)] w (RPost B Rb ov bv mg gs v r' (.tuple #[]) w) := by
  have HR := Lib.hid h; have HRES := Lib.hid hres
  have hlt := h.lt
  obtain ⟨og, ocap, rfl, hocap, homx, hfl, hogl, x0, x1⟩ := h.orderAt _ _ ho
  obtain ⟨⟨c0, _, c2, _⟩, hfz⟩ := h.open
  have f2 := hfz 2
  dsimp only at x0 x1
  generalize hxx : r.next = nx at *
  have b1 : IntKind.i64.wrap ((nx : Int) + 1) = ((nx + 1 : Nat) : Int) := by rw [IntWalk.i64_in _ (by omega)]; omega
  obtain ⟨hw0, ht0⟩ := h.cell 2 (.int .i64 ((nx : Int) + 1)) r0 (by rw [hr0]; rfl) (by rw [hr0]) (by rw [hr0]) (by rw [hr0]) (by rw [hr0]) (by rw [hr0]) (by rw [hr0])
  have HW := Lib.hid ((hw0.alloc (.cells #[.int .i64 2, .int .i64 n] 120)).drew)
  have HTW := Lib.hid ((ht0.alloc (.cells #[.int .i64 2, .int .i64 n] 120)).drew)
  have HBX := Lib.hid (fun (v' : RV) (w' : World) (ht : WentR Rb gs v v' (((w.setCell ⟨Rb, 2, none⟩ (.int .i64 ((nx : Int) + 1))).alloc (.cells #[.int .i64 2, .int .i64 n] 120)).drew) w') => two ((ht.turn.block w.heap.size (by show w.heap.size < ((w.setCell ⟨Rb, 2, none⟩ (.int .i64 ((nx : Int) + 1))).alloc (.cells #[.int .i64 2, .int .i64 n] 120)).heap.size; simp) (fun hx => by have := (h.xlow _ hx).2; omega)).trans (show ((w.setCell ⟨Rb, 2, none⟩ (.int .i64 ((nx : Int) + 1))).alloc (.cells #[.int .i64 2, .int .i64 n] 120)).heap[w.heap.size]? = _ from alloc_at _ _ _ (by simp))))
  have HSZ := Lib.hid (show w.heap.size < (((w.setCell ⟨Rb, 2, none⟩ (.int .i64 ((nx : Int) + 1))).alloc (.cells #[.int .i64 2, .int .i64 n] 120)).drew).heap.size by show w.heap.size < ((w.setCell ⟨Rb, 2, none⟩ (.int .i64 ((nx : Int) + 1))).alloc (.cells #[.int .i64 2, .int .i64 n] 120)).heap.size; simp)
  have HR0 := Lib.hid hr0
  clear h hfz ho hxx hr0 hw0 ht0 hres
  go_enter Tryz.func29, Tryz.ntmps29
  go_wp2_with (fail)
  go_region
  have HCC := Lib.hid hc; have HY := Lib.hid hy
  clear hc hy
  subst hn
  go_wp2_with (fail)
  generalize ((w.setCell ⟨Rb, 2, none⟩ (.int .i64 ((nx : Int) + 1))).alloc (.cells #[.int .i64 2, .int .i64 ((j : Nat) : Int)] 120)).drew = W at *
  obtain ⟨⟨y0, y1⟩, yf0, yf1⟩ := HBX.out _ _ (WentR.refl _ _ _ _)
  have hbs := HSZ.out
  have hw := HW.out
  have hwl := hw.lt
  obtain ⟨⟨_, _, _, w3, w4, _, _, _, _, _, _, w11, _⟩, _⟩ := hw.open
  have hpl : c.1 + j < r0.pile.length := (List.getElem?_eq_some_iff.1 HY.out).1
  obtain ⟨pg, pcap, hpv, hpc, hpgl, hpcell⟩ : ∃ pg pcap, v.pv = .slice (some ⟨pg, 0, none⟩) r0.pile.length pcap ∧ r0.pile.length ≤ pcap ∧ pg < W.heap.size ∧ W.cell? ⟨pg, c.1 + j, none⟩ = some (.int .i64 y) := by
    rcases hw.pile.2 with ⟨_, h0⟩ | ⟨g, cap, cur, h1, hb, hgg, hn, hc, hcs, htk⟩
    · omega
    · have h2 := hw.pile.cells (g := g) (by rw [h1]; rfl) (c.1 + j) (iV y) (by rw [List.getElem?_map, HY.out]; rfl)
      rw [Go.WideShapes.add_plain, Nat.zero_add] at h2
      exact ⟨g, cap, h1, hn, (Array.getElem?_eq_some_iff.1 hgg).1, h2⟩
  rw [hpv] at w3
  clear hw hpv
  go_region_with ((first | (go_at_call 48; refine (place_any HW.out.drew HCC.out hcl hc1 j hj).mono ?_; rintro e w9 ⟨rfl, rfl⟩) | (go_at_call 47; refine (lay_any HW.out.drew.drew hp y).mono ?_; rintro e w3 ⟨rfl, v9, ht9, hr9⟩; have HT9 := Lib.hid ht9; have HR9 := Lib.hid hr9; clear ht9 hr9)))
  all_goals go_wp2_with (fail)
  all_goals go_end0
  all_goals exact ⟨rfl, v9, HTW.out.drew.drew.trans HT9.out, by rw [HRES.out]; exact HR9.out⟩
set_option maxHeartbeats 8000000 in
set_option maxRecDepth 100000 in
theorem follow_setLocal {B Rb : Nat} {ov bv : Value} {mg : Nat} {gs : List Nat} {v : RV} {r : Rn} {w : World} (h : Runs B Rb ov bv mg gs v r w) (hnx : r.next ≤ 1099511627776) (n : Int) (j : Nat) (hn : n = (j : Int)) (ho : r.orders[r.next]? = some ⟨3, n⟩) (r0 r' : Rn) (hr0 : r0 = { r with next := r.next + 1 }) (hp : r0.pile.length ≤ 1099511627776) (cs : List (Nat × Nat)) (c : Nat × Nat) (hc : r0.calls = cs ++ [c]) (hcl : cs.length ≤ 1099511627776) (hc1 : c.1 ≤ 1099511627776) (hj : j ≤ 1099511627776) (xs : List Int) (x : Int) (hx : r0.pile = xs ++ [x]) (hpl : c.1 + j < xs.length) (hres : r' = ({ r0 with pile := xs } : Rn).setPile (c.1 + j) x) :
    Calls Tryz.prog 29 #[.pointer (some ⟨Rb, 0, none⟩)] w (RPost B Rb ov bv mg gs v r' (.tuple #[]) w) := by
  have HR := Lib.hid h; have HRES := Lib.hid hres
  have hlt := h.lt
  obtain ⟨og, ocap, rfl, hocap, homx, hfl, hogl, x0, x1⟩ := h.orderAt _ _ ho
  obtain ⟨⟨c0, _, c2, _⟩, hfz⟩ := h.open
  have f2 := hfz 2
  dsimp only at x0 x1
  generalize hxx : r.next = nx at *
  have b1 : IntKind.i64.wrap ((nx : Int) + 1) = ((nx + 1 : Nat) : Int) := by rw [IntWalk.i64_in _ (by omega)]; omega
  obtain ⟨hw0, ht0⟩ := h.cell 2 (.int .i64 ((nx : Int) + 1)) r0 (by rw [hr0]; rfl) (by rw [hr0]) (by rw [hr0]) (by rw [hr0]) (by rw [hr0]) (by rw [hr0]) (by rw [hr0])
  have HW := Lib.hid ((hw0.alloc (.cells #[.int .i64 3, .int .i64 n] 120)).drew)
  have HTW := Lib.hid ((ht0.alloc (.cells #[.int .i64 3, .int .i64 n] 120)).drew)
  have HBX := Lib.hid (fun (v' : RV) (w' : World) (ht : WentR Rb gs v v' (((w.setCell ⟨Rb, 2, none⟩ (.int .i64 ((nx : Int) + 1))).alloc (.cells #[.int .i64 3, .int .i64 n] 120)).drew) w') => two ((ht.turn.block w.heap.size (by show w.heap.size < ((w.setCell ⟨Rb, 2, none⟩ (.int .i64 ((nx : Int) + 1))).alloc (.cells #[.int .i64 3, .int .i64 n] 120)).heap.size; simp) (fun hx => by have := (h.xlow _ hx).2; omega)).trans (show ((w.setCell ⟨Rb, 2, none⟩ (.int .i64 ((nx : Int) + 1))).alloc (.cells #[.int .i64 3, .int .i64 n] 120)).heap[w.heap.size]? = _ from alloc_at _ _ _ (by simp))))
  have HSZ := Lib.hid (show w.heap.size < (((w.setCell ⟨Rb, 2, none⟩ (.int .i64 ((nx : Int) + 1))).alloc (.cells #[.int .i64 3, .int .i64 n] 120)).drew).heap.size by show w.heap.size < ((w.setCell ⟨Rb, 2, none⟩ (.int .i64 ((nx : Int) + 1))).alloc (.cells #[.int .i64 3, .int .i64 n] 120)).heap.size; simp)
  have HR0 := Lib.hid hr0
  clear h hfz ho hxx hr0 hw0 ht0 hres
  go_enter Tryz.func29, Tryz.ntmps29
  go_wp2_with (fail)
  go_region
  have HCC := Lib.hid hc; have HX := Lib.hid hx
  have hxl : xs.length ≤ 1099511627776 := by have := congrArg List.length hx; simp at this; omega
  clear hc hx
  subst hn
  go_wp2_with (fail)
  generalize ((w.setCell ⟨Rb, 2, none⟩ (.int .i64 ((nx : Int) + 1))).alloc (.cells #[.int .i64 3, .int .i64 ((j : Nat) : Int)] 120)).drew = W at *
  obtain ⟨⟨y0, y1⟩, yf0, yf1⟩ := HBX.out _ _ (WentR.refl _ _ _ _)
  have hbs := HSZ.out
  have hw := HW.out
  have hwl := hw.lt
  obtain ⟨⟨_, _, _, w3, w4, _, _, _, _, _, _, w11, _⟩, _⟩ := hw.open
  clear hw
  go_region_with ((first | (go_at_call 50; refine (pick_any HW.out.drew hp xs x HX.out).mono ?_; rintro e w1 ⟨rfl, v1, ht1, hr1⟩; have HT1 := Lib.hid (HTW.out.drew.trans ht1); have HR1 := Lib.hid hr1; obtain ⟨⟨y0, y1⟩, yf0, yf1⟩ := HBX.out _ _ ((WentR.refl _ _ _ _).drew.trans ht1); have hb1 : w.heap.size < w1.heap.size := (by have := ht1.turn.size; simp at this; omega); clear ht1 hr1) | (go_at_call 49; refine (set_run HR1.out HCC.out hcl hc1 j hj hpl hxl x).mono ?_; rintro e w3 ⟨rfl, v9, ht9, hr9⟩; have HT9 := Lib.hid (HT1.out.trans ht9); have HR9 := Lib.hid hr9; clear ht9 hr9)))
  all_goals go_wp2_with (fail)
  all_goals go_end0
  all_goals exact ⟨rfl, v9, HT9.out, by rw [HRES.out]; exact HR9.out⟩
set_option maxHeartbeats 8000000 in
set_option maxRecDepth 100000 in
theorem follow_getWord {B Rb : Nat} {ov bv : Value} {mg : Nat} {gs : List Nat} {v : RV} {r : Rn} {w : World} (h : Runs B Rb ov bv mg gs v r w) (hnx : r.next ≤ 1099511627776) (n : Int) (j : Nat) (hn : n = (j : Int)) (ho : r.orders[r.next]? = some ⟨4, n⟩) (r0 r' : Rn) (hr0 : r0 = { r with next := r.next + 1 }) (hp : r0.pile.length ≤ 1099511627776) (y : Int) (ws : List Int) (hm : r0.mem[j]? = some (y :: ws)) (hres : r' = r0.lay y) :
    Calls Tryz.prog 29 #[.pointer (some ⟨Rb, 0, none⟩)] w (RPost B Rb ov bv mg gs v r' (.tuple #[]) w) := by
  have HR := Lib.hid h; have HRES := Lib.hid hres
  have hlt := h.lt
  obtain ⟨og, ocap, rfl, hocap, homx, hfl, hogl, x0, x1⟩ := h.orderAt _ _ ho
  obtain ⟨⟨c0, _, c2, _⟩, hfz⟩ := h.open
  have f2 := hfz 2
  dsimp only at x0 x1
  generalize hxx : r.next = nx at *
  have b1 : IntKind.i64.wrap ((nx : Int) + 1) = ((nx + 1 : Nat) : Int) := by rw [IntWalk.i64_in _ (by omega)]; omega
  obtain ⟨hw0, ht0⟩ := h.cell 2 (.int .i64 ((nx : Int) + 1)) r0 (by rw [hr0]; rfl) (by rw [hr0]) (by rw [hr0]) (by rw [hr0]) (by rw [hr0]) (by rw [hr0]) (by rw [hr0])
  have HW := Lib.hid ((hw0.alloc (.cells #[.int .i64 4, .int .i64 n] 120)).drew)
  have HTW := Lib.hid ((ht0.alloc (.cells #[.int .i64 4, .int .i64 n] 120)).drew)
  have HBX := Lib.hid (fun (v' : RV) (w' : World) (ht : WentR Rb gs v v' (((w.setCell ⟨Rb, 2, none⟩ (.int .i64 ((nx : Int) + 1))).alloc (.cells #[.int .i64 4, .int .i64 n] 120)).drew) w') => two ((ht.turn.block w.heap.size (by show w.heap.size < ((w.setCell ⟨Rb, 2, none⟩ (.int .i64 ((nx : Int) + 1))).alloc (.cells #[.int .i64 4, .int .i64 n] 120)).heap.size; simp) (fun hx => by have := (h.xlow _ hx).2; omega)).trans (show ((w.setCell ⟨Rb, 2, none⟩ (.int .i64 ((nx : Int) + 1))).alloc (.cells #[.int .i64 4, .int .i64 n] 120)).heap[w.heap.size]? = _ from alloc_at _ _ _ (by simp))))
  have HSZ := Lib.hid (show w.heap.size < (((w.setCell ⟨Rb, 2, none⟩ (.int .i64 ((nx : Int) + 1))).alloc (.cells #[.int .i64 4, .int .i64 n] 120)).drew).heap.size by show w.heap.size < ((w.setCell ⟨Rb, 2, none⟩ (.int .i64 ((nx : Int) + 1))).alloc (.cells #[.int .i64 4, .int .i64 n] 120)).heap.size; simp)
  have HR0 := Lib.hid hr0
  clear h hfz ho hxx hr0 hw0 ht0 hres
  go_enter Tryz.func29, Tryz.ntmps29
  go_wp2_with (fail)
  go_region
  have HM := Lib.hid hm
  clear hm
  subst hn
  go_wp2_with (fail)
  generalize ((w.setCell ⟨Rb, 2, none⟩ (.int .i64 ((nx : Int) + 1))).alloc (.cells #[.int .i64 4, .int .i64 ((j : Nat) : Int)] 120)).drew = W at *
  obtain ⟨⟨y0, y1⟩, yf0, yf1⟩ := HBX.out _ _ (WentR.refl _ _ _ _)
  have hbs := HSZ.out
  have hw := HW.out
  have hwl := hw.lt
  obtain ⟨⟨_, _, _, w3, w4, _, _, _, _, _, _, w11, _⟩, _⟩ := hw.open
  obtain ⟨g, hg, m0, m1, m2, m3, m4⟩ := hw.memAt HM.out
  obtain ⟨m5, _⟩ := m4 0 y rfl
  have m6 : 0 < (y :: ws).length := by simp
  generalize (y :: ws).length = wl at *
  clear hw m4 hg
  go_region_with ((go_at_call 47; refine (lay_any HW.out.drew hp y).mono ?_; rintro e w3 ⟨rfl, v9, ht9, hr9⟩; have HT9 := Lib.hid ht9; have HR9 := Lib.hid hr9; clear ht9 hr9))
  all_goals go_wp2_with (fail)
  all_goals go_end0
  all_goals exact ⟨rfl, v9, HTW.out.drew.trans HT9.out, by rw [HRES.out]; exact HR9.out⟩
set_option maxHeartbeats 8000000 in
set_option maxRecDepth 100000 in
theorem follow_getItem {B Rb : Nat} {ov bv : Value} {mg : Nat} {gs : List Nat} {v : RV} {r : Rn} {w : World} (h : Runs B Rb ov bv mg gs v r w) (hnx : r.next ≤ 1099511627776) (n : Int) (j : Nat) (hn : n = (j : Int)) (ho : r.orders[r.next]? = some ⟨6, n⟩) (r0 r' : Rn) (hr0 : r0 = { r with next := r.next + 1 }) (hl : r0.leaks.length ≤ 1099511627775) (hp : r0.pile.length ≤ 1099511627776) (ws : List Int) (hm : r0.mem[j]? = some ws) (hwn : ws.length ≤ 1099511627776) (xs : List Int) (i : Int) (hi : InI64 i) (hx : r0.pile = xs ++ [i]) (hres : r' = if inW i ws.length then (({ r0 with pile := xs } : Rn).within ws.length i).lay (ws.getD i.toNat 0) else ({ r0 with pile := xs } : Rn).within ws.length i) :
    Calls Tryz.prog 29 #[.pointer (some ⟨Rb, 0, none⟩)] w (RPost B Rb ov bv mg gs v r' (.tuple #[]) w) := by
  have HR := Lib.hid h; have HRES := Lib.hid hres
  have hlt := h.lt
  obtain ⟨og, ocap, rfl, hocap, homx, hfl, hogl, x0, x1⟩ := h.orderAt _ _ ho
  obtain ⟨⟨c0, _, c2, _⟩, hfz⟩ := h.open
  have f2 := hfz 2
  dsimp only at x0 x1
  generalize hxx : r.next = nx at *
  have b1 : IntKind.i64.wrap ((nx : Int) + 1) = ((nx + 1 : Nat) : Int) := by rw [IntWalk.i64_in _ (by omega)]; omega
  obtain ⟨hw0, ht0⟩ := h.cell 2 (.int .i64 ((nx : Int) + 1)) r0 (by rw [hr0]; rfl) (by rw [hr0]) (by rw [hr0]) (by rw [hr0]) (by rw [hr0]) (by rw [hr0]) (by rw [hr0])
  have HW := Lib.hid ((hw0.alloc (.cells #[.int .i64 6, .int .i64 n] 120)).drew)
  have HTW := Lib.hid ((ht0.alloc (.cells #[.int .i64 6, .int .i64 n] 120)).drew)
  have HBX := Lib.hid (fun (v' : RV) (w' : World) (ht : WentR Rb gs v v' (((w.setCell ⟨Rb, 2, none⟩ (.int .i64 ((nx : Int) + 1))).alloc (.cells #[.int .i64 6, .int .i64 n] 120)).drew) w') => two ((ht.turn.block w.heap.size (by show w.heap.size < ((w.setCell ⟨Rb, 2, none⟩ (.int .i64 ((nx : Int) + 1))).alloc (.cells #[.int .i64 6, .int .i64 n] 120)).heap.size; simp) (fun hx => by have := (h.xlow _ hx).2; omega)).trans (show ((w.setCell ⟨Rb, 2, none⟩ (.int .i64 ((nx : Int) + 1))).alloc (.cells #[.int .i64 6, .int .i64 n] 120)).heap[w.heap.size]? = _ from alloc_at _ _ _ (by simp))))
  have HSZ := Lib.hid (show w.heap.size < (((w.setCell ⟨Rb, 2, none⟩ (.int .i64 ((nx : Int) + 1))).alloc (.cells #[.int .i64 6, .int .i64 n] 120)).drew).heap.size by show w.heap.size < ((w.setCell ⟨Rb, 2, none⟩ (.int .i64 ((nx : Int) + 1))).alloc (.cells #[.int .i64 6, .int .i64 n] 120)).heap.size; simp)
  have HR0 := Lib.hid hr0
  clear h hfz ho hxx hr0 hw0 ht0 hres
  go_enter Tryz.func29, Tryz.ntmps29
  go_wp2_with (fail)
  go_region
  have HM := Lib.hid hm; have HX := Lib.hid hx
  clear hm hx
  subst hn
  go_wp2_with (fail)
  generalize ((w.setCell ⟨Rb, 2, none⟩ (.int .i64 ((nx : Int) + 1))).alloc (.cells #[.int .i64 6, .int .i64 ((j : Nat) : Int)] 120)).drew = W at *
  obtain ⟨⟨y0, y1⟩, yf0, yf1⟩ := HBX.out _ _ (WentR.refl _ _ _ _)
  have hbs := HSZ.out
  have hw := HW.out
  have hwl := hw.lt
  obtain ⟨⟨_, _, _, w3, w4, _, _, _, _, _, _, w11, _⟩, _⟩ := hw.open
  obtain ⟨g, hg, m0, m1, m2, m3, m4⟩ := hw.memAt HM.out
  have HG := Lib.hid hg
  clear hw m4 hg
  go_region_with ((go_at_call 51; refine (get_run HW.out.drew hl hp HG.out HM.out hwn xs i hi HX.out).mono ?_; rintro e w3 ⟨rfl, v9, ht9, hr9⟩; rw [← HRES.out] at hr9; have HT9 := Lib.hid ht9; have HR9 := Lib.hid hr9; clear ht9 hr9))
  all_goals go_wp2_with (fail)
  all_goals go_end0
  all_goals exact ⟨rfl, v9, HTW.out.drew.trans HT9.out, HR9.out⟩
set_option maxHeartbeats 8000000 in
set_option maxRecDepth 100000 in
theorem follow_putItem {B Rb : Nat} {ov bv : Value} {mg : Nat} {gs : List Nat} {v : RV} {r : Rn} {w : World} (h : Runs B Rb ov bv mg gs v r w) (hnx : r.next ≤ 1099511627776) (n : Int) (j : Nat) (hn : n = (j : Int)) (ho : r.orders[r.next]? = some ⟨7, n⟩) (r0 r' : Rn) (hr0 : r0 = { r with next := r.next + 1 }) (hl : r0.leaks.length ≤ 1099511627775) (hp : r0.pile.length ≤ 1099511627776) (ws : List Int) (hm : r0.mem[j]? = some ws) (hwn : ws.length ≤ 1099511627776) (xs : List Int) (i x : Int) (hi : InI64 i) (hx : r0.pile = (xs ++ [i]) ++ [x]) (hres : r' = if inW i ws.length then (({ r0 with pile := xs } : Rn).within ws.length i).setMem j i.toNat x else ({ r0 with pile := xs } : Rn).within ws.length i) :
    Calls Tryz.prog 29 #[.pointer (some ⟨Rb, 0, none⟩)] w (RPost B Rb ov bv mg gs v r' (.tuple #[]) w) := by
  have HR := Lib.hid h; have HRES := Lib.hid hres
  have hlt := h.lt
  obtain ⟨og, ocap, rfl, hocap, homx, hfl, hogl, x0, x1⟩ := h.orderAt _ _ ho
  obtain ⟨⟨c0, _, c2, _⟩, hfz⟩ := h.open
  have f2 := hfz 2
  dsimp only at x0 x1
  generalize hxx : r.next = nx at *
  have b1 : IntKind.i64.wrap ((nx : Int) + 1) = ((nx + 1 : Nat) : Int) := by rw [IntWalk.i64_in _ (by omega)]; omega
  obtain ⟨hw0, ht0⟩ := h.cell 2 (.int .i64 ((nx : Int) + 1)) r0 (by rw [hr0]; rfl) (by rw [hr0]) (by rw [hr0]) (by rw [hr0]) (by rw [hr0]) (by rw [hr0]) (by rw [hr0])
  have HW := Lib.hid ((hw0.alloc (.cells #[.int .i64 7, .int .i64 n] 120)).drew)
  have HTW := Lib.hid ((ht0.alloc (.cells #[.int .i64 7, .int .i64 n] 120)).drew)
  have HBX := Lib.hid (fun (v' : RV) (w' : World) (ht : WentR Rb gs v v' (((w.setCell ⟨Rb, 2, none⟩ (.int .i64 ((nx : Int) + 1))).alloc (.cells #[.int .i64 7, .int .i64 n] 120)).drew) w') => two ((ht.turn.block w.heap.size (by show w.heap.size < ((w.setCell ⟨Rb, 2, none⟩ (.int .i64 ((nx : Int) + 1))).alloc (.cells #[.int .i64 7, .int .i64 n] 120)).heap.size; simp) (fun hx => by have := (h.xlow _ hx).2; omega)).trans (show ((w.setCell ⟨Rb, 2, none⟩ (.int .i64 ((nx : Int) + 1))).alloc (.cells #[.int .i64 7, .int .i64 n] 120)).heap[w.heap.size]? = _ from alloc_at _ _ _ (by simp))))
  have HSZ := Lib.hid (show w.heap.size < (((w.setCell ⟨Rb, 2, none⟩ (.int .i64 ((nx : Int) + 1))).alloc (.cells #[.int .i64 7, .int .i64 n] 120)).drew).heap.size by show w.heap.size < ((w.setCell ⟨Rb, 2, none⟩ (.int .i64 ((nx : Int) + 1))).alloc (.cells #[.int .i64 7, .int .i64 n] 120)).heap.size; simp)
  have HR0 := Lib.hid hr0
  clear h hfz ho hxx hr0 hw0 ht0 hres
  go_enter Tryz.func29, Tryz.ntmps29
  go_wp2_with (fail)
  go_region
  have HM := Lib.hid hm; have HX := Lib.hid hx
  clear hm hx
  subst hn
  go_wp2_with (fail)
  generalize ((w.setCell ⟨Rb, 2, none⟩ (.int .i64 ((nx : Int) + 1))).alloc (.cells #[.int .i64 7, .int .i64 ((j : Nat) : Int)] 120)).drew = W at *
  obtain ⟨⟨y0, y1⟩, yf0, yf1⟩ := HBX.out _ _ (WentR.refl _ _ _ _)
  have hbs := HSZ.out
  have hw := HW.out
  have hwl := hw.lt
  obtain ⟨⟨_, _, _, w3, w4, _, _, _, _, _, _, w11, _⟩, _⟩ := hw.open
  obtain ⟨g, hg, m0, m1, m2, m3, m4⟩ := hw.memAt HM.out
  have HG := Lib.hid hg
  clear hw m4 hg
  go_region_with ((go_at_call 52; refine (put_run HW.out.drew hl hp HG.out HM.out hwn xs i x hi HX.out).mono ?_; rintro e w3 ⟨rfl, v9, ht9, hr9⟩; rw [← HRES.out] at hr9; have HT9 := Lib.hid ht9; have HR9 := Lib.hid hr9; clear ht9 hr9))
  all_goals go_wp2_with (fail)
  all_goals go_end0
  all_goals exact ⟨rfl, v9, HTW.out.drew.trans HT9.out, HR9.out⟩
set_option maxHeartbeats 8000000 in
set_option maxRecDepth 100000 in
theorem follow_setWord {B Rb : Nat} {ov bv : Value} {mg : Nat} {gs : List Nat} {v : RV} {r : Rn} {w : World} (h : Runs B Rb ov bv mg gs v r w) (hnx : r.next ≤ 1099511627776) (n : Int) (j : Nat) (hn : n = (j : Int)) (ho : r.orders[r.next]? = some ⟨5, n⟩) (r0 r' : Rn) (hr0 : r0 = { r with next := r.next + 1 }) (hp : r0.pile.length ≤ 1099511627776) (y : Int) (ws : List Int) (hm : r0.mem[j]? = some (y :: ws)) (xs : List Int) (x : Int) (hx : r0.pile = xs ++ [x]) (hres : r' = ({ r0 with pile := xs } : Rn).setMem j 0 x) :
    Calls Tryz.prog 29 #[.pointer (some ⟨Rb, 0, none⟩)] w (RPost B Rb ov bv mg gs v r' (.tuple #[]) w) := by
  have HR := Lib.hid h; have HRES := Lib.hid hres
  have hlt := h.lt
  obtain ⟨og, ocap, rfl, hocap, homx, hfl, hogl, x0, x1⟩ := h.orderAt _ _ ho
  obtain ⟨⟨c0, _, c2, _⟩, hfz⟩ := h.open
  have f2 := hfz 2
  dsimp only at x0 x1
  generalize hxx : r.next = nx at *
  have b1 : IntKind.i64.wrap ((nx : Int) + 1) = ((nx + 1 : Nat) : Int) := by rw [IntWalk.i64_in _ (by omega)]; omega
  obtain ⟨hw0, ht0⟩ := h.cell 2 (.int .i64 ((nx : Int) + 1)) r0 (by rw [hr0]; rfl) (by rw [hr0]) (by rw [hr0]) (by rw [hr0]) (by rw [hr0]) (by rw [hr0]) (by rw [hr0])
  have HW := Lib.hid ((hw0.alloc (.cells #[.int .i64 5, .int .i64 n] 120)).drew)
  have HTW := Lib.hid ((ht0.alloc (.cells #[.int .i64 5, .int .i64 n] 120)).drew)
  have HBX := Lib.hid (fun (v' : RV) (w' : World) (ht : WentR Rb gs v v' (((w.setCell ⟨Rb, 2, none⟩ (.int .i64 ((nx : Int) + 1))).alloc (.cells #[.int .i64 5, .int .i64 n] 120)).drew) w') => two ((ht.turn.block w.heap.size (by show w.heap.size < ((w.setCell ⟨Rb, 2, none⟩ (.int .i64 ((nx : Int) + 1))).alloc (.cells #[.int .i64 5, .int .i64 n] 120)).heap.size; simp) (fun hx => by have := (h.xlow _ hx).2; omega)).trans (show ((w.setCell ⟨Rb, 2, none⟩ (.int .i64 ((nx : Int) + 1))).alloc (.cells #[.int .i64 5, .int .i64 n] 120)).heap[w.heap.size]? = _ from alloc_at _ _ _ (by simp))))
  have HSZ := Lib.hid (show w.heap.size < (((w.setCell ⟨Rb, 2, none⟩ (.int .i64 ((nx : Int) + 1))).alloc (.cells #[.int .i64 5, .int .i64 n] 120)).drew).heap.size by show w.heap.size < ((w.setCell ⟨Rb, 2, none⟩ (.int .i64 ((nx : Int) + 1))).alloc (.cells #[.int .i64 5, .int .i64 n] 120)).heap.size; simp)
  have HR0 := Lib.hid hr0
  clear h hfz ho hxx hr0 hw0 ht0 hres
  go_enter Tryz.func29, Tryz.ntmps29
  go_wp2_with (fail)
  go_region
  have HM := Lib.hid hm; have HX := Lib.hid hx
  clear hm hx
  subst hn
  go_wp2_with (fail)
  generalize ((w.setCell ⟨Rb, 2, none⟩ (.int .i64 ((nx : Int) + 1))).alloc (.cells #[.int .i64 5, .int .i64 ((j : Nat) : Int)] 120)).drew = W at *
  obtain ⟨⟨y0, y1⟩, yf0, yf1⟩ := HBX.out _ _ (WentR.refl _ _ _ _)
  have hbs := HSZ.out
  have hw := HW.out
  have hwl := hw.lt
  obtain ⟨⟨_, _, _, w3, w4, _, _, _, _, _, _, w11, _⟩, _⟩ := hw.open
  obtain ⟨g, hg, m0, m1, m2, m3, m4⟩ := hw.memAt HM.out
  have HG := Lib.hid hg
  have m6 : 0 < (y :: ws).length := by simp
  have HLEN := Lib.hid (fun (w1 : World) (v1 : RV) (hr : Runs B Rb (.slice (some ⟨og, 0, none⟩) r.orders.length ocap) bv mg gs v1 { r0 with pile := xs } w1) => hr.memAt (j := j) (ws := y :: ws) HM.out)
  clear hw m4 hg
  go_region_with ((go_at_call 50; refine (pick_any HW.out.drew hp xs x HX.out).mono ?_; rintro e w1 ⟨rfl, v1, ht1, hr1⟩; obtain ⟨⟨y0, y1⟩, yf0, yf1⟩ := HBX.out _ _ ((WentR.refl _ _ _ _).drew.trans ht1); have hb1 : w.heap.size < w1.heap.size := (by have := ht1.turn.size; simp at this; omega); have hl1 := hr1.lt; obtain ⟨⟨_, _, _, _, _, _, _, _, _, _, _, a11, _⟩, _⟩ := hr1.open; obtain ⟨g1, hg1, n0, n1, n2, n3, n4⟩ := HLEN.out _ _ hr1; obtain rfl : g1 = g := Option.some.inj (hg1.symm.trans HG.out); obtain ⟨n5, n6⟩ := n4 0 y rfl; have HS := Lib.hid (hr1.mset hg1 HM.out 0 x); have HT1 := Lib.hid (HTW.out.drew.trans ht1); clear n4 ht1 hr1 hg1))
  all_goals go_wp2_with (fail)
  all_goals go_end0
  all_goals exact ⟨rfl, v1, HT1.out.trans HS.out.2, by rw [HRES.out]; exact HS.out.1⟩
end Go.Proofs.YtaomlahphlemdaaGreatDoor
