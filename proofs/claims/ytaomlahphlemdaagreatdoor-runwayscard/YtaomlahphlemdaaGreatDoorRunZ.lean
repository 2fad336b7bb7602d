/-
  The runner: leave.
  The runner: turn.
  The runner: follow.
  The runner: follow: words and arrays.
-/
import Derived.Test.YtaomlahphlemdaaGreatDoorRunU
namespace Go.Proofs.YtaomlahphlemdaaGreatDoor
open Go.ChangeShapes Go.WideShapes Go.ChangeAt Go.RowKit
set_option linter.unusedVariables false

theorem own_cut {w : World} {B : Nat} {e : TypeId} {s n m cap : Nat} {a : Option Addr} {xs : List Value} (h : w.ownsRow B e s (.slice a n cap) n xs) (hm : m ≤ n) : w.ownsRow B e s (.slice a m cap) m (xs.take (m * s)) := by
  by_cases hq : m < n
  · exact own_take h hm hq
  · obtain rfl : m = n := by omega
    rw [List.take_of_length_le (by rw [h.1]; exact Nat.le_refl _)]
    exact h
set_option maxHeartbeats 8000000 in
set_option maxRecDepth 100000 in
theorem leave_run {B Rb : Nat} {ov bv : Value} {mg : Nat} {gs : List Nat} {v : RV} {r : Rn} {w : World} (h : Runs B Rb ov bv mg gs v r w) (hz : r.pile.length ≤ 1099511627776) (xs : List Int) (x : Int) (hx : r.pile = xs ++ [x]) (cs : List (Nat × Nat)) (c1 c2 : Nat) (hc : r.calls = cs ++ [(c1, c2)]) (hcs : cs.length ≤ 1099511627776) (hc1 : c1 ≤ xs.length) (hc2 : c2 ≤ 1099511627776) (r' : Rn)
    (hr' : r' = if cs.length = 0 then { r with calls := cs, pile := xs.take c1, next := c2, val := x, ended := true } else Rn.lay { r with calls := cs, pile := xs.take c1, next := c2 } x) :
    Calls Tryz.prog 54 #[.pointer (some ⟨Rb, 0, none⟩)] w (RPost B Rb ov bv mg gs v r' (.tuple #[]) w) := by
  have HR := Lib.hid h; have HRR := Lib.hid hr'; have HX := Lib.hid hx; have HC := Lib.hid hc
  have hlen : xs.length ≤ 1099511627776 := by have := congrArg List.length hx; simp at this; omega
  clear h hx hc hr'
  go_enter Tryz.func54, Tryz.ntmps54
  go_wp2_with (fail)
  refine (pick_any HR.out hz xs x HX.out).mono ?_
  rintro e w1 ⟨rfl, ⟨pv, cv, lv⟩, ht1, hr1⟩
  have HT1 := Lib.hid ht1; have HR1 := Lib.hid hr1
  have hlt := hr1.lt
  obtain ⟨⟨_, _, y2, y3, y4, _⟩, hfz⟩ := hr1.open
  obtain ⟨cg, ccap, hcv, hccap, hcmx, hcl, z0, z1⟩ := hr1.lastCall HC.out
  obtain ⟨pa, pcap, hpv, hpcap⟩ := own_slice hr1.pile
  dsimp only at hcv hpv y3 y4 z0 z1 hpcap
  subst hcv
  subst hpv
  generalize hm : cs.length = m at *
  clear ht1 hr1 hfz
  have b0 : IntKind.i64.wrap (((m + 1 : Nat) : Int) - 1) = (m : Int) := by rw [IntWalk.i64_in _ (by omega)]; omega
  have b1 : (((m + 1 : Nat) : Int) - 1) = (m : Int) := by omega
  go_upto_region 3 with (fail)
  have hW := HR1.out.alloc (.cells #[.int .i64 (c1 : Int), .int .i64 (c2 : Int)] 117)
  have hTW := HT1.out.alloc (.cells #[.int .i64 (c1 : Int), .int .i64 (c2 : Int)] 117)
  obtain ⟨⟨u0, u1⟩, uf0, uf1⟩ := two (alloc_at w1 (.cells #[.int .i64 (c1 : Int), .int .i64 (c2 : Int)] 117) _ rfl)
  have hsz : w1.heap.size < (w1.alloc (.cells #[.int .i64 (c1 : Int), .int .i64 (c2 : Int)] 117)).heap.size := by simp
  generalize w1.alloc (.cells #[.int .i64 (c1 : Int), .int .i64 (c2 : Int)] 117) = W at *
  obtain ⟨h1, t1⟩ := hW.drew.called (.slice (some ⟨cg, 0, none⟩) m ccap) cs (grown_self _ _) (by
    have h5 := hW.drew.calls
    dsimp only at h5
    rw [HC.out] at h5
    have e2 : (cs ++ [(c1, c2)]).length = m + 1 := by simp [hm]
    rw [e2] at h5
    have h6 := own_cut h5 (Nat.le_succ m)
    rw [caCells_snoc, List.take_left' (by rw [caCells_len, hm])] at h6
    rw [hm]
    exact h6) (fun q hq => .inl hq)
  obtain ⟨h2, t2⟩ := h1.piled (.slice pa c1 pcap) (xs.take c1) (grown_self _ _) (by
    have h5 := own_cut h1.pile hc1
    rw [Nat.mul_one, ← List.map_take] at h5
    rw [List.length_take, Nat.min_eq_left hc1]
    exact h5) (fun q hq => .inl (by cases pa with | none => cases hq | some a => exact hq))
  obtain ⟨h3, t3⟩ := h2.cell 2 (.int .i64 (c2 : Int)) { r with calls := cs, pile := xs.take c1, next := c2 } rfl rfl rfl rfl rfl rfl rfl
  have HW3 := Lib.hid h3; have HT3 := Lib.hid ((hTW.drew.trans t1).trans (t2.trans t3))
  have hltW := hW.lt
  obtain ⟨⟨_, _, v2, v3, v4, _, v6, _, _, _, _, _, _, v13⟩, hfz⟩ := hW.open
  have f2 := hfz 2; have f3 := hfz 3; have f4 := hfz 4; have f6 := hfz 6; have f13 := hfz 13
  obtain ⟨h4, t4⟩ := h3.cell 6 (.int .i64 x) { r with calls := cs, pile := xs.take c1, next := c2, val := x } rfl rfl rfl rfl rfl rfl rfl
  obtain ⟨h5, t5⟩ := h4.cell 13 (.bool true) { r with calls := cs, pile := xs.take c1, next := c2, val := x, ended := true } rfl rfl rfl rfl rfl rfl rfl
  have HW5 := Lib.hid h5; have HT5 := Lib.hid (t4.trans t5)
  dsimp only at v3 v4
  clear y2 y3 y4 z0 z1 hW hTW h1 t1 h2 t2 h3 t3 h4 t4 h5 t5 hfz uf0 uf1
  have hc1p : c1 ≤ pcap := by omega
  have HM := Lib.hid hm
  clear hm
  by_cases hm0 : m = 0
  · have HE := Lib.hid (show r' = { r with calls := cs, pile := xs.take c1, next := c2, val := x, ended := true } by rw [HRR.out, if_pos hm0])
    subst hm0
    have q1 : (((0 : Nat) : Int) == 0) = true := rfl
    have q2 : ((0 : Int) == 0) = true := rfl
    go_region
    all_goals go_wp2_with (fail)
    all_goals go_end0
    all_goals exact ⟨rfl, _, HT3.out.trans HT5.out, by rw [HE.out]; exact HW5.out⟩
  · have HE := Lib.hid (show r' = Rn.lay { r with calls := cs, pile := xs.take c1, next := c2 } x by rw [HRR.out, if_neg hm0])
    have q1 : ((m : Int) == 0) = false := by simpa using hm0
    have HPL := Lib.hid (show ({ r with calls := cs, pile := xs.take c1, next := c2 } : Rn).pile.length ≤ 1099511627776 by show (xs.take c1).length ≤ _; rw [List.length_take]; omega)
    clear hm0
    go_region
    all_goals go_wp2_with (fail)
    all_goals
      refine (lay_any (show Runs B Rb ov bv mg gs _ _ _ from HW3.out) HPL.out x).mono ?_
      rintro e w9 ⟨rfl, v9, ht9, hr9⟩
      have HT9 := Lib.hid (HT3.out.trans ht9); have HR9 := Lib.hid hr9
      clear ht9 hr9
      go_wp2_with (fail)
      go_end0
      exact ⟨rfl, v9, HT9.out, by rw [HE.out]; exact HR9.out⟩
end Go.Proofs.YtaomlahphlemdaaGreatDoor

namespace Go.Proofs.YtaomlahphlemdaaGreatDoor
open Go.ChangeShapes Go.WideShapes Go.ChangeAt Go.RowKit
set_option linter.unusedVariables false

set_option maxHeartbeats 4000000 in
set_option maxRecDepth 100000 in
theorem turn_jump {B Rb : Nat} {ov bv : Value} {mg : Nat} {gs : List Nat} {v : RV} {r : Rn} {w : World} (h : Runs B Rb ov bv mg gs v r w) (n : Nat) :
    Calls Tryz.prog 55 #[.pointer (some ⟨Rb, 0, none⟩), .agg #[.int .i64 11, .int .i64 (n : Int)]] w (RPost B Rb ov bv mg gs v { r with next := n } (.tuple #[]) w) := by
  have hlt := h.lt
  obtain ⟨⟨_, _, c2, _⟩, hfz⟩ := h.open
  have f2 := hfz 2
  obtain ⟨h1, t1⟩ := h.cell 2 (.int .i64 (n : Int)) { r with next := n } rfl rfl rfl rfl rfl rfl rfl
  have HR := Lib.hid (h1.alloc (.cells #[.int .i64 11, .int .i64 (n : Int)] 120)); have HT := Lib.hid (t1.alloc (.cells #[.int .i64 11, .int .i64 (n : Int)] 120))
  clear h hfz h1 t1
  go_enter Tryz.func55, Tryz.ntmps55
  go_wp2_with (fail)
  go_end0
  exact ⟨rfl, _, HT.out, HR.out⟩
set_option maxHeartbeats 4000000 in
set_option maxRecDepth 100000 in
theorem turn_unless0 {B Rb : Nat} {ov bv : Value} {mg : Nat} {gs : List Nat} {v : RV} {r : Rn} {w : World} (h : Runs B Rb ov bv mg gs v r w) (hz : r.pile.length ≤ 1099511627776) (hl : r.leaks.length ≤ 1099511627775) (xs : List Int) (x : Int) (hx : r.pile = xs ++ [x]) (n : Nat) (hq : x = 0) :
    Calls Tryz.prog 55 #[.pointer (some ⟨Rb, 0, none⟩), .agg #[.int .i64 12, .int .i64 (n : Int)]] w (RPost B Rb ov bv mg gs v { ({ r with pile := xs } : Rn).which false with next := n } (.tuple #[]) w) := by
  have HR := Lib.hid h; have HX := Lib.hid hx
  have hlt := h.lt
  have hlen : xs.length ≤ 1099511627776 := by have := congrArg List.length hx; simp at this; omega
  have HBX := Lib.hid (fun (v' : RV) (w' : World) (ht : WentR Rb gs v v' (w.alloc (.cells #[.int .i64 12, .int .i64 (n : Int)] 120)) w') => two (h.box ht.turn))
  have hs1 : w.heap.size < (w.alloc (.cells #[.int .i64 12, .int .i64 (n : Int)] 120)).heap.size := by simp
  have HTA := Lib.hid (show WentR Rb gs v v w (w.alloc (.cells #[.int .i64 12, .int .i64 (n : Int)] 120)) from (WentR.refl _ _ _ _).alloc _)
  clear h hx
  go_enter Tryz.func55, Tryz.ntmps55
  go_wp2_with (fail)
  refine (pick_any (HR.out.alloc _) hz xs x HX.out).mono ?_
  rintro e w1 ⟨rfl, v1, ht1, hr1⟩
  have hz1 := ht1.turn.size
  obtain ⟨⟨b0, b1⟩, bf0, bf1⟩ := HBX.out _ _ ht1
  have hb1 : w.heap.size < w1.heap.size := by omega
  have HT1 := Lib.hid ht1; have HR1 := Lib.hid hr1
  clear ht1 hr1
  have q1 : (x != 0) = false := by simpa using hq
  clear hq
  go_wp2_with (fail)
  refine (which_run HR1.out (by show r.leaks.length ≤ _; omega) false).mono ?_
  rintro e w2 ⟨rfl, v2, ht2, hr2⟩
  clear b0 b1 bf0 bf1
  have hz2 := ht2.turn.size
  have ht2' := HT1.out.trans ht2
  obtain ⟨⟨b0, b1⟩, bf0, bf1⟩ := HBX.out _ _ ht2'
  have hb2 : w.heap.size < w2.heap.size := by omega
  have hlt2 := hr2.lt
  obtain ⟨⟨_, _, c2, _⟩, hfz⟩ := hr2.open
  have f2 := hfz 2
  obtain ⟨h3, t3⟩ := hr2.cell 2 (.int .i64 (n : Int)) { ({ r with pile := xs } : Rn).which false with next := n } rfl rfl rfl rfl rfl rfl rfl
  have HR3 := Lib.hid h3; have HT3 := Lib.hid (ht2'.trans t3)
  clear ht2 ht2' hr2 hfz h3 t3
  go_wp2_with (fail)
  go_end0
  exact ⟨rfl, _, HTA.out.trans HT3.out, HR3.out⟩
set_option maxHeartbeats 4000000 in
set_option maxRecDepth 100000 in
theorem turn_unless1 {B Rb : Nat} {ov bv : Value} {mg : Nat} {gs : List Nat} {v : RV} {r : Rn} {w : World} (h : Runs B Rb ov bv mg gs v r w) (hz : r.pile.length ≤ 1099511627776) (hl : r.leaks.length ≤ 1099511627775) (xs : List Int) (x : Int) (hx : r.pile = xs ++ [x]) (n : Nat) (hq : x ≠ 0) :
    Calls Tryz.prog 55 #[.pointer (some ⟨Rb, 0, none⟩), .agg #[.int .i64 12, .int .i64 (n : Int)]] w (RPost B Rb ov bv mg gs v (({ r with pile := xs } : Rn).which true) (.tuple #[]) w) := by
  have HR := Lib.hid h; have HX := Lib.hid hx
  have hlt := h.lt
  have hlen : xs.length ≤ 1099511627776 := by have := congrArg List.length hx; simp at this; omega
  have HBX := Lib.hid (fun (v' : RV) (w' : World) (ht : WentR Rb gs v v' (w.alloc (.cells #[.int .i64 12, .int .i64 (n : Int)] 120)) w') => two (h.box ht.turn))
  have hs1 : w.heap.size < (w.alloc (.cells #[.int .i64 12, .int .i64 (n : Int)] 120)).heap.size := by simp
  have HTA := Lib.hid (show WentR Rb gs v v w (w.alloc (.cells #[.int .i64 12, .int .i64 (n : Int)] 120)) from (WentR.refl _ _ _ _).alloc _)
  clear h hx
  go_enter Tryz.func55, Tryz.ntmps55
  go_wp2_with (fail)
  refine (pick_any (HR.out.alloc _) hz xs x HX.out).mono ?_
  rintro e w1 ⟨rfl, v1, ht1, hr1⟩
  have hz1 := ht1.turn.size
  obtain ⟨⟨b0, b1⟩, bf0, bf1⟩ := HBX.out _ _ ht1
  have hb1 : w.heap.size < w1.heap.size := by omega
  have HT1 := Lib.hid ht1; have HR1 := Lib.hid hr1
  clear ht1 hr1
  have q1 : (x != 0) = true := by simpa using hq
  clear hq
  go_wp2_with (fail)
  refine (which_run HR1.out (by show r.leaks.length ≤ _; omega) true).mono ?_
  rintro e w2 ⟨rfl, v2, ht2, hr2⟩
  clear b0 b1 bf0 bf1
  have hz2 := ht2.turn.size
  have ht2' := HT1.out.trans ht2
  obtain ⟨⟨b0, b1⟩, bf0, bf1⟩ := HBX.out _ _ ht2'
  have hb2 : w.heap.size < w2.heap.size := by omega
  have hlt2 := hr2.lt
  have HR3 := Lib.hid hr2; have HT3 := Lib.hid ht2'
  clear ht2 ht2' hr2
  go_wp2_with (fail)
  go_end0
  exact ⟨rfl, _, HTA.out.trans HT3.out, HR3.out⟩
set_option maxHeartbeats 4000000 in
set_option maxRecDepth 100000 in
theorem turn_leave13f {B Rb : Nat} {ov bv : Value} {mg : Nat} {gs : List Nat} {v : RV} {r : Rn} {w : World} (h : Runs B Rb ov bv mg gs v r w) (hz : r.pile.length ≤ 1099511627776) (hl : r.leaks.length ≤ 1099511627775) (xs : List Int) (x : Int) (hx : r.pile = xs ++ [x]) (n : Nat) (hq : x = 0) :
    Calls Tryz.prog 55 #[.pointer (some ⟨Rb, 0, none⟩), .agg #[.int .i64 13, .int .i64 (n : Int)]] w (RPost B Rb ov bv mg gs v { (({ r with pile := xs } : Rn).which false).lay x with next := n } (.tuple #[]) w) := by
  have HR := Lib.hid h; have HX := Lib.hid hx
  have hlt := h.lt
  have hlen : xs.length ≤ 1099511627776 := by have := congrArg List.length hx; simp at this; omega
  have HBX := Lib.hid (fun (v' : RV) (w' : World) (ht : WentR Rb gs v v' (w.alloc (.cells #[.int .i64 13, .int .i64 (n : Int)] 120)) w') => two (h.box ht.turn))
  have hs1 : w.heap.size < (w.alloc (.cells #[.int .i64 13, .int .i64 (n : Int)] 120)).heap.size := by simp
  have HTA := Lib.hid (show WentR Rb gs v v w (w.alloc (.cells #[.int .i64 13, .int .i64 (n : Int)] 120)) from (WentR.refl _ _ _ _).alloc _)
  clear h hx
  go_enter Tryz.func55, Tryz.ntmps55
  go_wp2_with (fail)
  refine (pick_any (HR.out.alloc _) hz xs x HX.out).mono ?_
  rintro e w1 ⟨rfl, v1, ht1, hr1⟩
  have hz1 := ht1.turn.size
  obtain ⟨⟨b0, b1⟩, bf0, bf1⟩ := HBX.out _ _ ht1
  have hb1 : w.heap.size < w1.heap.size := by omega
  have HT1 := Lib.hid ht1; have HR1 := Lib.hid hr1
  clear ht1 hr1
  have q1 : (x != 0) = false := by simpa using hq
  clear hq
  go_wp2_with (fail)
  go_region_with ((go_at_call 72; refine (which_run HR1.out.drew (by show r.leaks.length ≤ _; omega) false).mono ?_; rintro e w2 ⟨rfl, v2, ht2, hr2⟩; have hz2 := ht2.turn.size; have ht2' := HT1.out.drew.trans ht2; obtain ⟨⟨b0, b1⟩, bf0, bf1⟩ := HBX.out _ _ ht2'; have hb2 : w.heap.size < w2.heap.size := (by simp at hz2; omega); have HR2 := Lib.hid hr2; have HT2 := Lib.hid ht2'; clear ht2 hr2 ht2'))
  all_goals go_wp2_with (fail)
  all_goals
    refine (lay_any HR2.out (by show xs.length ≤ _; omega) x).mono ?_
    rintro e w3 ⟨rfl, v3, ht3, hr3⟩
    have hz3 := ht3.turn.size
    have ht3' := HT2.out.trans ht3
    obtain ⟨⟨b0, b1⟩, bf0, bf1⟩ := HBX.out _ _ ht3'
    have hb3 : w.heap.size < w3.heap.size := by omega
    have hlt3 := hr3.lt
    obtain ⟨⟨_, _, c2, _⟩, hfz⟩ := hr3.open
    have f2 := hfz 2
    obtain ⟨h4, t4⟩ := hr3.cell 2 (.int .i64 (n : Int)) { (({ r with pile := xs } : Rn).which false).lay x with next := n } rfl rfl rfl rfl rfl rfl rfl
    have HR4 := Lib.hid h4; have HT4 := Lib.hid (ht3'.trans t4)
    clear ht3 ht3' hr3 hfz h4 t4
    go_wp2_with (fail)
    go_end0
    exact ⟨rfl, _, HTA.out.trans HT4.out, HR4.out⟩
set_option maxHeartbeats 4000000 in
set_option maxRecDepth 100000 in
theorem turn_leave13t {B Rb : Nat} {ov bv : Value} {mg : Nat} {gs : List Nat} {v : RV} {r : Rn} {w : World} (h : Runs B Rb ov bv mg gs v r w) (hz : r.pile.length ≤ 1099511627776) (hl : r.leaks.length ≤ 1099511627775) (xs : List Int) (x : Int) (hx : r.pile = xs ++ [x]) (n : Nat) (hq : x ≠ 0) :
    Calls Tryz.prog 55 #[.pointer (some ⟨Rb, 0, none⟩), .agg #[.int .i64 13, .int .i64 (n : Int)]] w (RPost B Rb ov bv mg gs v (({ r with pile := xs } : Rn).which true) (.tuple #[]) w) := by
  have HR := Lib.hid h; have HX := Lib.hid hx
  have hlt := h.lt
  have hlen : xs.length ≤ 1099511627776 := by have := congrArg List.length hx; simp at this; omega
  have HBX := Lib.hid (fun (v' : RV) (w' : World) (ht : WentR Rb gs v v' (w.alloc (.cells #[.int .i64 13, .int .i64 (n : Int)] 120)) w') => two (h.box ht.turn))
  have hs1 : w.heap.size < (w.alloc (.cells #[.int .i64 13, .int .i64 (n : Int)] 120)).heap.size := by simp
  have HTA := Lib.hid (show WentR Rb gs v v w (w.alloc (.cells #[.int .i64 13, .int .i64 (n : Int)] 120)) from (WentR.refl _ _ _ _).alloc _)
  clear h hx
  go_enter Tryz.func55, Tryz.ntmps55
  go_wp2_with (fail)
  refine (pick_any (HR.out.alloc _) hz xs x HX.out).mono ?_
  rintro e w1 ⟨rfl, v1, ht1, hr1⟩
  have hz1 := ht1.turn.size
  obtain ⟨⟨b0, b1⟩, bf0, bf1⟩ := HBX.out _ _ ht1
  have hb1 : w.heap.size < w1.heap.size := by omega
  have HT1 := Lib.hid ht1; have HR1 := Lib.hid hr1
  clear ht1 hr1
  have q1 : (x != 0) = true := by simpa using hq
  clear hq
  go_wp2_with (fail)
  go_region_with ((go_at_call 72; refine (which_run HR1.out.drew (by show r.leaks.length ≤ _; omega) true).mono ?_; rintro e w2 ⟨rfl, v2, ht2, hr2⟩; have hz2 := ht2.turn.size; have ht2' := HT1.out.drew.trans ht2; obtain ⟨⟨b0, b1⟩, bf0, bf1⟩ := HBX.out _ _ ht2'; have hb2 : w.heap.size < w2.heap.size := (by simp at hz2; omega); have HR2 := Lib.hid hr2; have HT2 := Lib.hid ht2'; clear ht2 hr2 ht2'))
  all_goals go_wp2_with (fail)
  all_goals go_end0
  all_goals exact ⟨rfl, _, HTA.out.trans HT2.out, HR2.out⟩
set_option maxHeartbeats 4000000 in
set_option maxRecDepth 100000 in
theorem turn_leave14f {B Rb : Nat} {ov bv : Value} {mg : Nat} {gs : List Nat} {v : RV} {r : Rn} {w : World} (h : Runs B Rb ov bv mg gs v r w) (hz : r.pile.length ≤ 1099511627776) (hl : r.leaks.length ≤ 1099511627775) (xs : List Int) (x : Int) (hx : r.pile = xs ++ [x]) (n : Nat) (hq : x = 0) :
    Calls Tryz.prog 55 #[.pointer (some ⟨Rb, 0, none⟩), .agg #[.int .i64 14, .int .i64 (n : Int)]] w (RPost B Rb ov bv mg gs v (({ r with pile := xs } : Rn).which false) (.tuple #[]) w) := by
  have HR := Lib.hid h; have HX := Lib.hid hx
  have hlt := h.lt
  have hlen : xs.length ≤ 1099511627776 := by have := congrArg List.length hx; simp at this; omega
  have HBX := Lib.hid (fun (v' : RV) (w' : World) (ht : WentR Rb gs v v' (w.alloc (.cells #[.int .i64 14, .int .i64 (n : Int)] 120)) w') => two (h.box ht.turn))
  have hs1 : w.heap.size < (w.alloc (.cells #[.int .i64 14, .int .i64 (n : Int)] 120)).heap.size := by simp
  have HTA := Lib.hid (show WentR Rb gs v v w (w.alloc (.cells #[.int .i64 14, .int .i64 (n : Int)] 120)) from (WentR.refl _ _ _ _).alloc _)
  clear h hx
  go_enter Tryz.func55, Tryz.ntmps55
  go_wp2_with (fail)
  refine (pick_any (HR.out.alloc _) hz xs x HX.out).mono ?_
  rintro e w1 ⟨rfl, v1, ht1, hr1⟩
  have hz1 := ht1.turn.size
  obtain ⟨⟨b0, b1⟩, bf0, bf1⟩ := HBX.out _ _ ht1
  have hb1 : w.heap.size < w1.heap.size := by omega
  have HT1 := Lib.hid ht1; have HR1 := Lib.hid hr1
  clear ht1 hr1
  have q1 : (x != 0) = false := by simpa using hq
  clear hq
  go_wp2_with (fail)
  go_region_with ((go_at_call 72; refine (which_run HR1.out.drew (by show r.leaks.length ≤ _; omega) false).mono ?_; rintro e w2 ⟨rfl, v2, ht2, hr2⟩; have hz2 := ht2.turn.size; have ht2' := HT1.out.drew.trans ht2; obtain ⟨⟨b0, b1⟩, bf0, bf1⟩ := HBX.out _ _ ht2'; have hb2 : w.heap.size < w2.heap.size := (by simp at hz2; omega); have HR2 := Lib.hid hr2; have HT2 := Lib.hid ht2'; clear ht2 hr2 ht2'))
  all_goals go_wp2_with (fail)
  all_goals go_end0
  all_goals exact ⟨rfl, _, HTA.out.trans HT2.out, HR2.out⟩
set_option maxHeartbeats 4000000 in
set_option maxRecDepth 100000 in
theorem turn_leave14t {B Rb : Nat} {ov bv : Value} {mg : Nat} {gs : List Nat} {v : RV} {r : Rn} {w : World} (h : Runs B Rb ov bv mg gs v r w) (hz : r.pile.length ≤ 1099511627776) (hl : r.leaks.length ≤ 1099511627775) (xs : List Int) (x : Int) (hx : r.pile = xs ++ [x]) (n : Nat) (hq : x ≠ 0) :
    Calls Tryz.prog 55 #[.pointer (some ⟨Rb, 0, none⟩), .agg #[.int .i64 14, .int .i64 (n : Int)]] w (RPost B Rb ov bv mg gs v { (({ r with pile := xs } : Rn).which true).lay x with next := n } (.tuple #[]) w) := by
  have HR := Lib.hid h; have HX := Lib.hid hx
  have hlt := h.lt
  have hlen : xs.length ≤ 1099511627776 := by have := congrArg List.length hx; simp at this; omega
  have HBX := Lib.hid (fun (v' : RV) (w' : World) (ht : WentR Rb gs v v' (w.alloc (.cells #[.int .i64 14, .int .i64 (n : Int)] 120)) w') => two (h.box ht.turn))
  have hs1 : w.heap.size < (w.alloc (.cells #[.int .i64 14, .int .i64 (n : Int)] 120)).heap.size := by simp
  have HTA := Lib.hid (show WentR Rb gs v v w (w.alloc (.cells #[.int .i64 14, .int .i64 (n : Int)] 120)) from (WentR.refl _ _ _ _).alloc _)
  clear h hx
  go_enter Tryz.func55, Tryz.ntmps55
  go_wp2_with (fail)
  refine (pick_any (HR.out.alloc _) hz xs x HX.out).mono ?_
  rintro e w1 ⟨rfl, v1, ht1, hr1⟩
  have hz1 := ht1.turn.size
  obtain ⟨⟨b0, b1⟩, bf0, bf1⟩ := HBX.out _ _ ht1
  have hb1 : w.heap.size < w1.heap.size := by omega
  have HT1 := Lib.hid ht1; have HR1 := Lib.hid hr1
  clear ht1 hr1
  have q1 : (x != 0) = true := by simpa using hq
  clear hq
  go_wp2_with (fail)
  go_region_with ((go_at_call 72; refine (which_run HR1.out.drew (by show r.leaks.length ≤ _; omega) true).mono ?_; rintro e w2 ⟨rfl, v2, ht2, hr2⟩; have hz2 := ht2.turn.size; have ht2' := HT1.out.drew.trans ht2; obtain ⟨⟨b0, b1⟩, bf0, bf1⟩ := HBX.out _ _ ht2'; have hb2 : w.heap.size < w2.heap.size := (by simp at hz2; omega); have HR2 := Lib.hid hr2; have HT2 := Lib.hid ht2'; clear ht2 hr2 ht2'))
  all_goals go_wp2_with (fail)
  all_goals
    refine (lay_any HR2.out (by show xs.length ≤ _; omega) x).mono ?_
    rintro e w3 ⟨rfl, v3, ht3, hr3⟩
    have hz3 := ht3.turn.size
    have ht3' := HT2.out.trans ht3
    obtain ⟨⟨b0, b1⟩, bf0, bf1⟩ := HBX.out _ _ ht3'
    have hb3 : w.heap.size < w3.heap.size := by omega
    have hlt3 := hr3.lt
    obtain ⟨⟨_, _, c2, _⟩, hfz⟩ := hr3.open
    have f2 := hfz 2
    obtain ⟨h4, t4⟩ := hr3.cell 2 (.int .i64 (n : Int)) { (({ r with pile := xs } : Rn).which true).lay x with next := n } rfl rfl rfl rfl rfl rfl rfl
    have HR4 := Lib.hid h4; have HT4 := Lib.hid (ht3'.trans t4)
    clear ht3 ht3' hr3 hfz h4 t4
    go_wp2_with (fail)
    go_end0
    exact ⟨rfl, _, HTA.out.trans HT4.out, HR4.out⟩
end Go.Proofs.YtaomlahphlemdaaGreatDoor

namespace Go.Proofs.YtaomlahphlemdaaGreatDoor
open Go.ChangeShapes Go.WideShapes Go.ChangeAt Go.RowKit
set_option linter.unusedVariables false

theorem odCells_at : ∀ (l : List Od) (i : Nat) (h : i < l.length), (odCells l)[i * 2]? = some (.int .i64 (l[i]).deed) ∧ (odCells l)[i * 2 + 1]? = some (.int .i64 (l[i]).n)
  | [], i, h => by simp at h
  | b :: r, 0, _ => by simp [odCells, odV]
  | b :: r, i + 1, h => by
    obtain ⟨h1, h2⟩ := odCells_at r i (by simpa using h)
    refine ⟨?_, ?_⟩
    · rw [show (i + 1) * 2 = i * 2 + 1 + 1 by omega]; simpa [odCells, odV] using h1
    · rw [show (i + 1) * 2 + 1 = i * 2 + 1 + 1 + 1 by omega]; simpa [odCells, odV] using h2
theorem Runs.orderAt {B Rb : Nat} {ov bv : Value} {mg : Nat} {gs : List Nat} {v : RV} {r : Rn} {w : World} (h : Runs B Rb ov bv mg gs v r w) (f : Nat) (o : Od) (ho : r.orders[f]? = some o) : ∃ g cap, ov = .slice (some ⟨g, 0, none⟩) r.orders.length cap ∧ r.orders.length ≤ cap ∧ r.orders.length ≤ maxLen ∧ f < r.orders.length ∧ g < w.heap.size ∧ w.cell? ⟨g, f * 2, none⟩ = some (.int .i64 o.deed) ∧ w.cell? ⟨g, f * 2 + 1, none⟩ = some (.int .i64 o.n) := by
  obtain ⟨hf, rfl⟩ := List.getElem?_eq_some_iff.1 ho
  rcases h.ord.2 with ⟨_, h0⟩ | ⟨g, cap, cur, h1, hb, hgg, hn, hcm, hcs, htk⟩
  · omega
  · have hx := h.ord.cells (g := g) (by rw [h1]; rfl)
    obtain ⟨e0, e1⟩ := odCells_at r.orders f hf
    have x0 := hx _ _ e0; have x1 := hx _ _ e1
    rw [Go.WideShapes.add_plain, Nat.zero_add] at x0 x1
    exact ⟨g, cap, h1, hn, Nat.le_trans hn hcm, hf, (Array.getElem?_eq_some_iff.1 hgg).1, x0, x1⟩
set_option maxHeartbeats 8000000 in
set_option maxRecDepth 100000 in
theorem follow_step {B Rb : Nat} {ov bv : Value} {mg : Nat} {gs : List Nat} {v : RV} {r : Rn} {w : World} (h : Runs B Rb ov bv mg gs v r w) (hnx : r.next ≤ 1099511627776) (n : Int) (ho : r.orders[r.next]? = some ⟨0, n⟩) (r0 r' : Rn) (hr0 : r0 = { r with next := r.next + 1 }) (hs0 : 0 ≤ r0.steps) (hs1 : r0.steps ≤ 1099511627776) (hres : r' = r0.step) :
    Calls Tryz.prog 29 #[.pointer (some ⟨Rb, 0, none⟩)] w (RPost B Rb ov bv mg gs v r' (.tuple #[]) w) := by
  have HR := Lib.hid h; have HRES := Lib.hid hres
  have hlt := h.lt
  obtain ⟨og, ocap, rfl, hocap, homx, hfl, hogl, x0, x1⟩ := h.orderAt _ _ ho
  obtain ⟨⟨c0, _, c2, _⟩, hfz⟩ := h.open
  have f2 := hfz 2
  dsimp only at x0 x1
  generalize hxx : r.next = nx at *
  have b1 : IntKind.i64.wrap ((nx : Int) + 1) = ((nx + 1 : Nat) : Int) := by rw [IntWalk.i64_in _ (by omega)]; omega
  obtain ⟨hw0, ht0⟩ := h.cell 2 (.int .i64 ((nx : Int) + 1)) r0 (by rw [hr0]; rfl) (by rw [hr0]) (by rw [hr0]) (by rw [hr0]) (by rw [hr0]) (by rw [hr0]) (by rw [hr0])
  have HW := Lib.hid ((hw0.alloc (.cells #[.int .i64 0, .int .i64 n] 120)).drew)
  have HTW := Lib.hid ((ht0.alloc (.cells #[.int .i64 0, .int .i64 n] 120)).drew)
  have HBX := Lib.hid (fun (v' : RV) (w' : World) (ht : WentR Rb gs v v' (((w.setCell ⟨Rb, 2, none⟩ (.int .i64 ((nx : Int) + 1))).alloc (.cells #[.int .i64 0, .int .i64 n] 120)).drew) w') => two ((ht.turn.block w.heap.size (by show w.heap.size < ((w.setCell ⟨Rb, 2, none⟩ (.int .i64 ((nx : Int) + 1))).alloc (.cells #[.int .i64 0, .int .i64 n] 120)).heap.size; simp) (fun hx => by have := (h.xlow _ hx).2; omega)).trans (show ((w.setCell ⟨Rb, 2, none⟩ (.int .i64 ((nx : Int) + 1))).alloc (.cells #[.int .i64 0, .int .i64 n] 120)).heap[w.heap.size]? = _ from alloc_at _ _ _ (by simp))))
  have HSZ := Lib.hid (show w.heap.size < (((w.setCell ⟨Rb, 2, none⟩ (.int .i64 ((nx : Int) + 1))).alloc (.cells #[.int .i64 0, .int .i64 n] 120)).drew).heap.size by show w.heap.size < ((w.setCell ⟨Rb, 2, none⟩ (.int .i64 ((nx : Int) + 1))).alloc (.cells #[.int .i64 0, .int .i64 n] 120)).heap.size; simp)
  have HR0 := Lib.hid hr0
  clear h hfz ho hxx hr0 hw0 ht0 hres
  go_enter Tryz.func29, Tryz.ntmps29
  go_wp2_with (fail)
  go_region
  go_wp2_with (fail)
  generalize ((w.setCell ⟨Rb, 2, none⟩ (.int .i64 ((nx : Int) + 1))).alloc (.cells #[.int .i64 0, .int .i64 n] 120)).drew = W at *
  refine (step_run HW.out hs0 hs1).mono ?_
  rintro e w9 ⟨rfl, v9, ht9, hr9⟩
  have HT9 := Lib.hid (HTW.out.trans ht9); have HR9 := Lib.hid hr9
  clear ht9 hr9
  go_wp2_with (fail)
  go_end0
  exact ⟨rfl, v9, HT9.out, by rw [HRES.out]; exact HR9.out⟩
set_option maxHeartbeats 8000000 in
set_option maxRecDepth 100000 in
theorem follow_lay {B Rb : Nat} {ov bv : Value} {mg : Nat} {gs : List Nat} {v : RV} {r : Rn} {w : World} (h : Runs B Rb ov bv mg gs v r w) (hnx : r.next ≤ 1099511627776) (n : Int) (ho : r.orders[r.next]? = some ⟨1, n⟩) (r0 r' : Rn) (hr0 : r0 = { r with next := r.next + 1 }) (hp : r0.pile.length ≤ 1099511627776) (hres : r' = r0.lay n) :
    Calls Tryz.prog 29 #[.pointer (some ⟨Rb, 0, none⟩)] w (RPost B Rb ov bv mg gs v r' (.tuple #[]) w) := by
  have HR := Lib.hid h; have HRES := Lib.hid hres
  have hlt := h.lt
  obtain ⟨og, ocap, rfl, hocap, homx, hfl, hogl, x0, x1⟩ := h.orderAt _ _ ho
  obtain ⟨⟨c0, _, c2, _⟩, hfz⟩ := h.open
  have f2 := hfz 2
  dsimp only at x0 x1
  generalize hxx : r.next = nx at *
  have b1 : IntKind.i64.wrap ((nx : Int) + 1) = ((nx + 1 : Nat) : Int) := by rw [IntWalk.i64_in _ (by omega)]; omega
  obtain ⟨hw0, ht0⟩ := h.cell 2 (.int .i64 ((nx : Int) + 1)) r0 (by rw [hr0]; rfl) (by rw [hr0]) (by rw [hr0]) (by rw [hr0]) (by rw [hr0]) (by rw [hr0]) (by rw [hr0])
  have HW := Lib.hid ((hw0.alloc (.cells #[.int .i64 1, .int .i64 n] 120)).drew)
  have HTW := Lib.hid ((ht0.alloc (.cells #[.int .i64 1, .int .i64 n] 120)).drew)
  have HBX := Lib.hid (fun (v' : RV) (w' : World) (ht : WentR Rb gs v v' (((w.setCell ⟨Rb, 2, none⟩ (.int .i64 ((nx : Int) + 1))).alloc (.cells #[.int .i64 1, .int .i64 n] 120)).drew) w') => two ((ht.turn.block w.heap.size (by show w.heap.size < ((w.setCell ⟨Rb, 2, none⟩ (.int .i64 ((nx : Int) + 1))).alloc (.cells #[.int .i64 1, .int .i64 n] 120)).heap.size; simp) (fun hx => by have := (h.xlow _ hx).2; omega)).trans (show ((w.setCell ⟨Rb, 2, none⟩ (.int .i64 ((nx : Int) + 1))).alloc (.cells #[.int .i64 1, .int .i64 n] 120)).heap[w.heap.size]? = _ from alloc_at _ _ _ (by simp))))
  have HSZ := Lib.hid (show w.heap.size < (((w.setCell ⟨Rb, 2, none⟩ (.int .i64 ((nx : Int) + 1))).alloc (.cells #[.int .i64 1, .int .i64 n] 120)).drew).heap.size by show w.heap.size < ((w.setCell ⟨Rb, 2, none⟩ (.int .i64 ((nx : Int) + 1))).alloc (.cells #[.int .i64 1, .int .i64 n] 120)).heap.size; simp)
  have HR0 := Lib.hid hr0
  clear h hfz ho hxx hr0 hw0 ht0 hres
  go_enter Tryz.func29, Tryz.ntmps29
  go_wp2_with (fail)
  go_region
  go_wp2_with (fail)
  generalize ((w.setCell ⟨Rb, 2, none⟩ (.int .i64 ((nx : Int) + 1))).alloc (.cells #[.int .i64 1, .int .i64 n] 120)).drew = W at *
  refine (lay_any HW.out hp n).mono ?_
  rintro e w9 ⟨rfl, v9, ht9, hr9⟩
  have HT9 := Lib.hid (HTW.out.trans ht9); have HR9 := Lib.hid hr9
  clear ht9 hr9
  go_wp2_with (fail)
  go_end0
  exact ⟨rfl, v9, HT9.out, by rw [HRES.out]; exact HR9.out⟩
set_option maxHeartbeats 8000000 in
set_option maxRecDepth 100000 in
theorem follow_both {B Rb : Nat} {ov bv : Value} {mg : Nat} {gs : List Nat} {v : RV} {r : Rn} {w : World} (h : Runs B Rb ov bv mg gs v r w) (hnx : r.next ≤ 1099511627776) (n : Int) (ho : r.orders[r.next]? = some ⟨8, n⟩) (r0 r' : Rn) (hr0 : r0 = { r with next := r.next + 1 }) (hl : r0.leaks.length ≤ 1099511627775) (hp : r0.pile.length ≤ 1099511627776) (xs : List Int) (a b : Int) (hab : r0.pile = (xs ++ [a]) ++ [b]) (h1 : 1 ≤ n) (h2 : n ≤ 15) (hres : r' = if n = 4 ∨ n = 5 then (if b = 0 then (({ r0 with pile := xs } : Rn).which false).stop 2 else ((({ r0 with pile := xs } : Rn).which true).leak 3 a b).lay (doI n a b)) else ({ r0 with pile := xs } : Rn).lay (doI n a b)) :
    Calls Tryz.prog 29 #[.pointer (some ⟨Rb, 0, none⟩)] w (RPost B Rb ov bv mg gs v r' (.tuple #[]) w) := by
  have HR := Lib.hid h; have HRES := Lib.hid hres
  have hlt := h.lt
  obtain ⟨og, ocap, rfl, hocap, homx, hfl, hogl, x0, x1⟩ := h.orderAt _ _ ho
  obtain ⟨⟨c0, _, c2, _⟩, hfz⟩ := h.open
  have f2 := hfz 2
  dsimp only at x0 x1
  generalize hxx : r.next = nx at *
  have b1 : IntKind.i64.wrap ((nx : Int) + 1) = ((nx + 1 : Nat) : Int) := by rw [IntWalk.i64_in _ (by omega)]; omega
  obtain ⟨hw0, ht0⟩ := h.cell 2 (.int .i64 ((nx : Int) + 1)) r0 (by rw [hr0]; rfl) (by rw [hr0]) (by rw [hr0]) (by rw [hr0]) (by rw [hr0]) (by rw [hr0]) (by rw [hr0])
  have HW := Lib.hid ((hw0.alloc (.cells #[.int .i64 8, .int .i64 n] 120)).drew)
  have HTW := Lib.hid ((ht0.alloc (.cells #[.int .i64 8, .int .i64 n] 120)).drew)
  have HBX := Lib.hid (fun (v' : RV) (w' : World) (ht : WentR Rb gs v v' (((w.setCell ⟨Rb, 2, none⟩ (.int .i64 ((nx : Int) + 1))).alloc (.cells #[.int .i64 8, .int .i64 n] 120)).drew) w') => two ((ht.turn.block w.heap.size (by show w.heap.size < ((w.setCell ⟨Rb, 2, none⟩ (.int .i64 ((nx : Int) + 1))).alloc (.cells #[.int .i64 8, .int .i64 n] 120)).heap.size; simp) (fun hx => by have := (h.xlow _ hx).2; omega)).trans (show ((w.setCell ⟨Rb, 2, none⟩ (.int .i64 ((nx : Int) + 1))).alloc (.cells #[.int .i64 8, .int .i64 n] 120)).heap[w.heap.size]? = _ from alloc_at _ _ _ (by simp))))
  have HSZ := Lib.hid (show w.heap.size < (((w.setCell ⟨Rb, 2, none⟩ (.int .i64 ((nx : Int) + 1))).alloc (.cells #[.int .i64 8, .int .i64 n] 120)).drew).heap.size by show w.heap.size < ((w.setCell ⟨Rb, 2, none⟩ (.int .i64 ((nx : Int) + 1))).alloc (.cells #[.int .i64 8, .int .i64 n] 120)).heap.size; simp)
  have HR0 := Lib.hid hr0
  clear h hfz ho hxx hr0 hw0 ht0 hres
  go_enter Tryz.func29, Tryz.ntmps29
  go_wp2_with (fail)
  go_region
  have HAB := Lib.hid hab
  clear hab
  go_wp2_with (fail)
  generalize ((w.setCell ⟨Rb, 2, none⟩ (.int .i64 ((nx : Int) + 1))).alloc (.cells #[.int .i64 8, .int .i64 n] 120)).drew = W at *
  refine (both_run HW.out hl hp xs a b HAB.out n h1 h2 r' HRES.out).mono ?_
  rintro e w9 ⟨rfl, v9, ht9, hr9⟩
  have HT9 := Lib.hid (HTW.out.trans ht9); have HR9 := Lib.hid hr9
  clear ht9 hr9
  go_wp2_with (fail)
  go_end0
  exact ⟨rfl, v9, HT9.out, HR9.out⟩
set_option maxHeartbeats 8000000 in
set_option maxRecDepth 100000 in
theorem follow_drop {B Rb : Nat} {ov bv : Value} {mg : Nat} {gs : List Nat} {v : RV} {r : Rn} {w : World} (h : Runs B Rb ov bv mg gs v r w) (hnx : r.next ≤ 1099511627776) (n : Int) (ho : r.orders[r.next]? = some ⟨10, n⟩) (r0 r' : Rn) (hr0 : r0 = { r with next := r.next + 1 }) (hp : r0.pile.length ≤ 1099511627776) (xs : List Int) (x : Int) (hx : r0.pile = xs ++ [x]) (hres : r' = { r0 with pile := xs }) :
    Calls Tryz.prog 29 #[.pointer (some ⟨Rb, 0, none⟩)] w (RPost B Rb ov bv mg gs v r' (.tuple #[]) w) := by
  have HR := Lib.hid h; have HRES := Lib.hid hres
  have hlt := h.lt
  obtain ⟨og, ocap, rfl, hocap, homx, hfl, hogl, x0, x1⟩ := h.orderAt _ _ ho
  obtain ⟨⟨c0, _, c2, _⟩, hfz⟩ := h.open
  have f2 := hfz 2
  dsimp only at x0 x1
  generalize hxx : r.next = nx at *
  have b1 : IntKind.i64.wrap ((nx : Int) + 1) = ((nx + 1 : Nat) : Int) := by rw [IntWalk.i64_in _ (by omega)]; omega
  obtain ⟨hw0, ht0⟩ := h.cell 2 (.int .i64 ((nx : Int) + 1)) r0 (by rw [hr0]; rfl) (by rw [hr0]) (by rw [hr0]) (by rw [hr0]) (by rw [hr0]) (by rw [hr0]) (by rw [hr0])
  have HW := Lib.hid ((hw0.alloc (.cells #[.int .i64 10, .int .i64 n] 120)).drew)
  have HTW := Lib.hid ((ht0.alloc (.cells #[.int .i64 10, .int .i64 n] 120)).drew)
  have HBX := Lib.hid (fun (v' : RV) (w' : World) (ht : WentR Rb gs v v' (((w.setCell ⟨Rb, 2, none⟩ (.int .i64 ((nx : Int) + 1))).alloc (.cells #[.int .i64 10, .int .i64 n] 120)).drew) w') => two ((ht.turn.block w.heap.size (by show w.heap.size < ((w.setCell ⟨Rb, 2, none⟩ (.int .i64 ((nx : Int) + 1))).alloc (.cells #[.int .i64 10, .int .i64 n] 120)).heap.size; simp) (fun hx => by have := (h.xlow _ hx).2; omega)).trans (show ((w.setCell ⟨Rb, 2, none⟩ (.int .i64 ((nx : Int) + 1))).alloc (.cells #[.int .i64 10, .int .i64 n] 120)).heap[w.heap.size]? = _ from alloc_at _ _ _ (by simp))))
  have HSZ := Lib.hid (show w.heap.size < (((w.setCell ⟨Rb, 2, none⟩ (.int .i64 ((nx : Int) + 1))).alloc (.cells #[.int .i64 10, .int .i64 n] 120)).drew).heap.size by show w.heap.size < ((w.setCell ⟨Rb, 2, none⟩ (.int .i64 ((nx : Int) + 1))).alloc (.cells #[.int .i64 10, .int .i64 n] 120)).heap.size; simp)
  have HR0 := Lib.hid hr0
  clear h hfz ho hxx hr0 hw0 ht0 hres
  go_enter Tryz.func29, Tryz.ntmps29
  go_wp2_with (fail)
  go_region
  have HX := Lib.hid hx
  clear hx
  go_wp2_with (fail)
  generalize ((w.setCell ⟨Rb, 2, none⟩ (.int .i64 ((nx : Int) + 1))).alloc (.cells #[.int .i64 10, .int .i64 n] 120)).drew = W at *
  refine (pick_any HW.out hp xs x HX.out).mono ?_
  rintro e w9 ⟨rfl, v9, ht9, hr9⟩
  have HT9 := Lib.hid (HTW.out.trans ht9); have HR9 := Lib.hid hr9
  clear ht9 hr9
  go_wp2_with (fail)
  go_end0
  exact ⟨rfl, v9, HT9.out, by rw [HRES.out]; exact HR9.out⟩
set_option maxHeartbeats 8000000 in
set_option maxRecDepth 100000 in
theorem follow_not {B Rb : Nat} {ov bv : Value} {mg : Nat} {gs : List Nat} {v : RV} {r : Rn} {w : World} (h : Runs B Rb ov bv mg gs v r w) (hnx : r.next ≤ 1099511627776) (n : Int) (ho : r.orders[r.next]? = some ⟨9, n⟩) (r0 r' : Rn) (hr0 : r0 = { r with next := r.next + 1 }) (hp : r0.pile.length ≤ 1099511627776) (xs : List Int) (x : Int) (hx : r0.pile = xs ++ [x]) (hres : r' = ({ r0 with pile := xs } : Rn).lay (wrap64 (1 - x))) :
    Calls Tryz.prog 29 #[.pointer (some ⟨Rb, 0, none⟩)] w (RPost B Rb ov bv mg gs v r' (.tuple #[]) w) := by
  have HR := Lib.hid h; have HRES := Lib.hid hres
  have hlt := h.lt
  obtain ⟨og, ocap, rfl, hocap, homx, hfl, hogl, x0, x1⟩ := h.orderAt _ _ ho
  obtain ⟨⟨c0, _, c2, _⟩, hfz⟩ := h.open
  have f2 := hfz 2
  dsimp only at x0 x1
  generalize hxx : r.next = nx at *
  have b1 : IntKind.i64.wrap ((nx : Int) + 1) = ((nx + 1 : Nat) : Int) := by rw [IntWalk.i64_in _ (by omega)]; omega
  obtain ⟨hw0, ht0⟩ := h.cell 2 (.int .i64 ((nx : Int) + 1)) r0 (by rw [hr0]; rfl) (by rw [hr0]) (by rw [hr0]) (by rw [hr0]) (by rw [hr0]) (by rw [hr0]) (by rw [hr0])
  have HW := Lib.hid ((hw0.alloc (.cells #[.int .i64 9, .int .i64 n] 120)).drew)
  have HTW := Lib.hid ((ht0.alloc (.cells #[.int .i64 9, .int .i64 n] 120)).drew)
  have HBX := Lib.hid (fun (v' : RV) (w' : World) (ht : WentR Rb gs v v' (((w.setCell ⟨Rb, 2, none⟩ (.int .i64 ((nx : Int) + 1))).alloc (.cells #[.int .i64 9, .int .i64 n] 120)).drew) w') => two ((ht.turn.block w.heap.size (by show w.heap.size < ((w.setCell ⟨Rb, 2, none⟩ (.int .i64 ((nx : Int) + 1))).alloc (.cells #[.int .i64 9, .int .i64 n] 120)).heap.size; simp) (fun hx => by have := (h.xlow _ hx).2; omega)).trans (show ((w.setCell ⟨Rb, 2, none⟩ (.int .i64 ((nx : Int) + 1))).alloc (.cells #[.int .i64 9, .int .i64 n] 120)).heap[w.heap.size]? = _ from alloc_at _ _ _ (by simp))))
  have HSZ := Lib.hid (show w.heap.size < (((w.setCell ⟨Rb, 2, none⟩ (.int .i64 ((nx : Int) + 1))).alloc (.cells #[.int .i64 9, .int .i64 n] 120)).drew).heap.size by show w.heap.size < ((w.setCell ⟨Rb, 2, none⟩ (.int .i64 ((nx : Int) + 1))).alloc (.cells #[.int .i64 9, .int .i64 n] 120)).heap.size; simp)
  have HR0 := Lib.hid hr0
  clear h hfz ho hxx hr0 hw0 ht0 hres
  go_enter Tryz.func29, Tryz.ntmps29
  go_wp2_with (fail)
  go_region
  have HX := Lib.hid hx
  have hxl : xs.length ≤ 1099511627776 := by have := congrArg List.length hx; simp at this; omega
  clear hx
  go_wp2_with (fail)
  generalize ((w.setCell ⟨Rb, 2, none⟩ (.int .i64 ((nx : Int) + 1))).alloc (.cells #[.int .i64 9, .int .i64 n] 120)).drew = W at *
  refine (pick_any HW.out hp xs x HX.out).mono ?_
  rintro e w1 ⟨rfl, v1, ht1, hr1⟩
  have HT1 := Lib.hid (HTW.out.trans ht1); have HR1 := Lib.hid hr1
  clear ht1 hr1
  go_wp2_with (fail)
  refine (lay_any HR1.out (by show xs.length ≤ _; omega) (wrap64 (1 - x))).mono ?_
  rintro e w9 ⟨rfl, v9, ht9, hr9⟩
  have HT9 := Lib.hid (HT1.out.trans ht9); have HR9 := Lib.hid hr9
  clear ht9 hr9
  go_wp2_with (fail)
  go_end0
  exact ⟨rfl, v9, HT9.out, by rw [HRES.out]; exact HR9.out⟩
set_option maxHeartbeats 8000000 in
set_option maxRecDepth 100000 in
theorem follow_leave {B Rb : Nat} {ov bv : Value} {mg : Nat} {gs : List Nat} {v : RV} {r : Rn} {w : World} (h : Runs B Rb ov bv mg gs v r w) (hnx : r.next ≤ 1099511627776) (n : Int) (ho : r.orders[r.next]? = some ⟨16, n⟩) (r0 r' : Rn) (hr0 : r0 = { r with next := r.next + 1 }) (hp : r0.pile.length ≤ 1099511627776) (xs : List Int) (x : Int) (hx : r0.pile = xs ++ [x]) (cs : List (Nat × Nat)) (d1 d2 : Nat) (hc : r0.calls = cs ++ [(d1, d2)]) (hcs : cs.length ≤ 1099511627776) (hc1 : d1 ≤ xs.length) (hc2 : d2 ≤ 1099511627776) (hres : r' = if cs.length = 0 then { r0 with calls := cs, pile := xs.take d1, next := d2, val := x, ended := true } else Rn.lay { r0 with calls := cs, pile := xs.take d1, next := d2 } x) :
    Calls Tryz.prog 29 #[.pointer (some ⟨Rb, 0, none⟩)] w (RPost B Rb ov bv mg gs v r' (.tuple #[]) w) := by
  have HR := Lib.hid h; have HRES := Lib.hid hres
  have hlt := h.lt
  obtain ⟨og, ocap, rfl, hocap, homx, hfl, hogl, x0, x1⟩ := h.orderAt _ _ ho
  obtain ⟨⟨c0, _, c2, _⟩, hfz⟩ := h.open
  have f2 := hfz 2
  dsimp only at x0 x1
  generalize hxx : r.next = nx at *
  have b1 : IntKind.i64.wrap ((nx : Int) + 1) = ((nx + 1 : Nat) : Int) := by rw [IntWalk.i64_in _ (by omega)]; omega
  obtain ⟨hw0, ht0⟩ := h.cell 2 (.int .i64 ((nx : Int) + 1)) r0 (by rw [hr0]; rfl) (by rw [hr0]) (by rw [hr0]) (by rw [hr0]) (by rw [hr0]) (by rw [hr0]) (by rw [hr0])
  have HW := Lib.hid ((hw0.alloc (.cells #[.int .i64 16, .int .i64 n] 120)).drew)
  have HTW := Lib.hid ((ht0.alloc (.cells #[.int .i64 16, .int .i64 n] 120)).drew)
  have HBX := Lib.hid (fun (v' : RV) (w' : World) (ht : WentR Rb gs v v' (((w.setCell ⟨Rb, 2, none⟩ (.int .i64 ((nx : Int) + 1))).alloc (.cells #[.int .i64 16, .int .i64 n] 120)).drew) w') => two ((ht.turn.block w.heap.size (by show w.heap.size < ((w.setCell ⟨Rb, 2, none⟩ (.int .i64 ((nx : Int) + 1))).alloc (.cells #[.int .i64 16, .int .i64 n] 120)).heap.size; simp) (fun hx => by have := (h.xlow _ hx).2; omega)).trans (show ((w.setCell ⟨Rb, 2, none⟩ (.int .i64 ((nx : Int) + 1))).alloc (.cells #[.int .i64 16, .int .i64 n] 120)).heap[w.heap.size]? = _ from alloc_at _ _ _ (by simp))))
  have HSZ := Lib.hid (show w.heap.size < (((w.setCell ⟨Rb, 2, none⟩ (.int .i64 ((nx : Int) + 1))).alloc (.cells #[.int .i64 16, .int .i64 n] 120)).drew).heap.size by show w.heap.size < ((w.setCell ⟨Rb, 2, none⟩ (.int .i64 ((nx : Int) + 1))).alloc (.cells #[.int .i64 16, .int .i64 n] 120)).heap.size; simp)
  have HR0 := Lib.hid hr0
  clear h hfz ho hxx hr0 hw0 ht0 hres
  go_enter Tryz.func29, Tryz.ntmps29
  go_wp2_with (fail)
  go_region
  have HX := Lib.hid hx; have HC := Lib.hid hc
  clear hx hc
  go_wp2_with (fail)
  generalize ((w.setCell ⟨Rb, 2, none⟩ (.int .i64 ((nx : Int) + 1))).alloc (.cells #[.int .i64 16, .int .i64 n] 120)).drew = W at *
  refine (leave_run HW.out hp xs x HX.out cs d1 d2 HC.out hcs hc1 hc2 r' HRES.out).mono ?_
  rintro e w9 ⟨rfl, v9, ht9, hr9⟩
  have HT9 := Lib.hid (HTW.out.trans ht9); have HR9 := Lib.hid hr9
  clear ht9 hr9
  go_wp2_with (fail)
  go_end0
  exact ⟨rfl, v9, HT9.out, HR9.out⟩
end Go.Proofs.YtaomlahphlemdaaGreatDoor

namespace Go.Proofs.YtaomlahphlemdaaGreatDoor
open Go.ChangeShapes Go.WideShapes Go.ChangeAt Go.RowKit
set_option linter.unusedVariables false

/-- A global's slice, in memory. -/
theorem Runs.memAt {B Rb : Nat} {ov bv : Value} {mg : Nat} {gs : List Nat} {v : RV} {r : Rn} {w : World} (h : Runs B Rb ov bv mg gs v r w) {j : Nat} {ws : List Int} (hw : r.mem[j]? = some ws) : ∃ g, gs[j]? = some g ∧ w.cell? ⟨mg, j, none⟩ = some (.slice (some ⟨g, 0, none⟩) ws.length ws.length) ∧ mg < w.heap.size ∧ g < w.heap.size ∧ j < gs.length ∧ ∀ k x, ws[k]? = some x → w.cell? ⟨g, k, none⟩ = some (.int .i64 x) ∧ w.frozen? ⟨g, k, none⟩ = false := by
  have hj : j < gs.length := by rw [h.same]; exact (List.getElem?_eq_some_iff.1 hw).1
  have hg : gs[j]? = some gs[j] := List.getElem?_eq_getElem hj
  have hb := h.words j gs[j] ws hg hw
  refine ⟨gs[j], hg, ?_, (Array.getElem?_eq_some_iff.1 h.mem).1, (Array.getElem?_eq_some_iff.1 hb).1, hj, fun k x hk => ⟨?_, Lib.frozen_of_heap hb _⟩⟩
  · rw [Lib.cell_of_heap h.mem]
    simp [memCells, List.getElem?_zipWith, hg, hw]
  · rw [Lib.cell_of_heap hb]
    simp [iV, hk]
set_option maxHeartbeats 8000000 in
set_option maxRecDepth 100000 in
theorem follow_jump {B Rb : Nat} {ov bv : Value} {mg : Nat} {gs : List Nat} {v : RV} {r : Rn} {w : World} (h : Runs B Rb ov bv mg gs v r w) (hnx : r.next ≤ 1099511627776) (n : Int) (j : Nat) (hn : n = (j : Int)) (ho : r.orders[r.next]? = some ⟨11, n⟩) (r0 r' : Rn) (hr0 : r0 = { r with next := r.next + 1 }) (hres : r' = { r0 with next := j }) :
    Calls Tryz.prog 29 #[.pointer (some ⟨Rb, 0, none⟩)] w (RPost B Rb ov bv mg gs v r' (.tuple #[]) w) := by
  have HR := Lib.hid h; have HRES := Lib.hid hres
  have hlt := h.lt
  obtain ⟨og, ocap, rfl, hocap, homx, hfl, hogl, x0, x1⟩ := h.orderAt _ _ ho
  obtain ⟨⟨c0, _, c2, _⟩, hfz⟩ := h.open
  have f2 := hfz 2
  dsimp only at x0 x1
  generalize hxx : r.next = nx at *
  have b1 : IntKind.i64.wrap ((nx : Int) + 1) = ((nx + 1 : Nat) : Int) := by rw [IntWalk.i64_in _ (by omega)]; omega
  obtain ⟨hw0, ht0⟩ := h.cell 2 (.int .i64 ((nx : Int) + 1)) r0 (by rw [hr0]; rfl) (by rw [hr0]) (by rw [hr0]) (by rw [hr0]) (by rw [hr0]) (by rw [hr0]) (by rw [hr0])
  have HW := Lib.hid ((hw0.alloc (.cells #[.int .i64 11, .int .i64 n] 120)).drew)
  have HTW := Lib.hid ((ht0.alloc (.cells #[.int .i64 11, .int .i64 n] 120)).drew)
  have HBX := Lib.hid (fun (v' : RV) (w' : World) (ht : WentR Rb gs v v' (((w.setCell ⟨Rb, 2, none⟩ (.int .i64 ((nx : Int) + 1))).alloc (.cells #[.int .i64 11, .int .i64 n] 120)).drew) w') => two ((ht.turn.block w.heap.size (by show w.heap.size < ((w.setCell ⟨Rb, 2, none⟩ (.int .i64 ((nx : Int) + 1))).alloc (.cells #[.int .i64 11, .int .i64 n] 120)).heap.size; simp) (fun hx => by have := (h.xlow _ hx).2; omega)).trans (show ((w.setCell ⟨Rb, 2, none⟩ (.int .i64 ((nx : Int) + 1))).alloc (.cells #[.int .i64 11, .int .i64 n] 120)).heap[w.heap.size]? = _ from alloc_at _ _ _ (by simp))))
  have HSZ := Lib.hid (show w.heap.size < (((w.setCell ⟨Rb, 2, none⟩ (.int .i64 ((nx : Int) + 1))).alloc (.cells #[.int .i64 11, .int .i64 n] 120)).drew).heap.size by show w.heap.size < ((w.setCell ⟨Rb, 2, none⟩ (.int .i64 ((nx : Int) + 1))).alloc (.cells #[.int .i64 11, .int .i64 n] 120)).heap.size; simp)
  have HR0 := Lib.hid hr0
  clear h hfz ho hxx hr0 hw0 ht0 hres
  go_enter Tryz.func29, Tryz.ntmps29
  go_wp2_with (fail)
  go_region
  subst hn
  obtain ⟨⟨y0, y1⟩, yf0, yf1⟩ := HBX.out _ _ (WentR.refl _ _ _ _)
  have hbs := HSZ.out
  go_wp2_with (fail)
  generalize ((w.setCell ⟨Rb, 2, none⟩ (.int .i64 ((nx : Int) + 1))).alloc (.cells #[.int .i64 11, .int .i64 ((j : Nat) : Int)] 120)).drew = W at *
  refine (turn_jump HW.out j).mono ?_
  rintro e w9 ⟨rfl, v9, ht9, hr9⟩
  have HT9 := Lib.hid (HTW.out.trans ht9); have HR9 := Lib.hid hr9
  clear ht9 hr9
  go_wp2_with (fail)
  go_end0
  exact ⟨rfl, v9, HT9.out, by rw [HRES.out]; exact HR9.out⟩
set_option maxHeartbeats 8000000 in
set_option maxRecDepth 100000 in
theorem follow_unless0 {B Rb : Nat} {ov bv : Value} {mg : Nat} {gs : List Nat} {v : RV} {r : Rn} {w : World} (h : Runs B Rb ov bv mg gs v r w) (hnx : r.next ≤ 1099511627776) (n : Int) (j : Nat) (hn : n = (j : Int)) (ho : r.orders[r.next]? = some ⟨12, n⟩) (r0 r' : Rn) (hr0 : r0 = { r with next := r.next + 1 }) (hp : r0.pile.length ≤ 1099511627776) (hl : r0.leaks.length ≤ 1099511627775) (xs : List Int) (x : Int) (hx : r0.pile = xs ++ [x]) (hq : x = 0) (hres : r' = { ({ r0 with pile := xs } : Rn).which false with next := j }) :
    Calls Tryz.prog 29 #[.pointer (some ⟨Rb, 0, none⟩)] w (RPost B Rb ov bv mg gs v r' (.tuple #[]) w) := by
  have HR := Lib.hid h; have HRES := Lib.hid hres
  have hlt := h.lt
  obtain ⟨og, ocap, rfl, hocap, homx, hfl, hogl, x0, x1⟩ := h.orderAt _ _ ho
  obtain ⟨⟨c0, _, c2, _⟩, hfz⟩ := h.open
  have f2 := hfz 2
  dsimp only at x0 x1
  generalize hxx : r.next = nx at *
  have b1 : IntKind.i64.wrap ((nx : Int) + 1) = ((nx + 1 : Nat) : Int) := by rw [IntWalk.i64_in _ (by omega)]; omega
  obtain ⟨hw0, ht0⟩ := h.cell 2 (.int .i64 ((nx : Int) + 1)) r0 (by rw [hr0]; rfl) (by rw [hr0]) (by rw [hr0]) (by rw [hr0]) (by rw [hr0]) (by rw [hr0]) (by rw [hr0])
  have HW := Lib.hid ((hw0.alloc (.cells #[.int .i64 12, .int .i64 n] 120)).drew)
  have HTW := Lib.hid ((ht0.alloc (.cells #[.int .i64 12, .int .i64 n] 120)).drew)
  have HBX := Lib.hid (fun (v' : RV) (w' : World) (ht : WentR Rb gs v v' (((w.setCell ⟨Rb, 2, none⟩ (.int .i64 ((nx : Int) + 1))).alloc (.cells #[.int .i64 12, .int .i64 n] 120)).drew) w') => two ((ht.turn.block w.heap.size (by show w.heap.size < ((w.setCell ⟨Rb, 2, none⟩ (.int .i64 ((nx : Int) + 1))).alloc (.cells #[.int .i64 12, .int .i64 n] 120)).heap.size; simp) (fun hx => by have := (h.xlow _ hx).2; omega)).trans (show ((w.setCell ⟨Rb, 2, none⟩ (.int .i64 ((nx : Int) + 1))).alloc (.cells #[.int .i64 12, .int .i64 n] 120)).heap[w.heap.size]? = _ from alloc_at _ _ _ (by simp))))
  have HSZ := Lib.hid (show w.heap.size < (((w.setCell ⟨Rb, 2, none⟩ (.int .i64 ((nx : Int) + 1))).alloc (.cells #[.int .i64 12, .int .i64 n] 120)).drew).heap.size by show w.heap.size < ((w.setCell ⟨Rb, 2, none⟩ (.int .i64 ((nx : Int) + 1))).alloc (.cells #[.int .i64 12, .int .i64 n] 120)).heap.size; simp)
  have HR0 := Lib.hid hr0
  clear h hfz ho hxx hr0 hw0 ht0 hres
  go_enter Tryz.func29, Tryz.ntmps29
  go_wp2_with (fail)
  go_region
  have HX := Lib.hid hx
  clear hx
  subst hn
  obtain ⟨⟨y0, y1⟩, yf0, yf1⟩ := HBX.out _ _ (WentR.refl _ _ _ _)
  have hbs := HSZ.out
  go_wp2_with (fail)
  generalize ((w.setCell ⟨Rb, 2, none⟩ (.int .i64 ((nx : Int) + 1))).alloc (.cells #[.int .i64 12, .int .i64 ((j : Nat) : Int)] 120)).drew = W at *
  refine (turn_unless0 HW.out hp hl xs x HX.out j hq).mono ?_
  rintro e w9 ⟨rfl, v9, ht9, hr9⟩
  have HT9 := Lib.hid (HTW.out.trans ht9); have HR9 := Lib.hid hr9
  clear ht9 hr9
  go_wp2_with (fail)
  go_end0
  exact ⟨rfl, v9, HT9.out, by rw [HRES.out]; exact HR9.out⟩
set_option maxHeartbeats 8000000 in
set_option maxRecDepth 100000 in
theorem follow_unless1 {B Rb : Nat} {ov bv : Value} {mg : Nat} {gs : List Nat} {v : RV} {r : Rn} {w : World} (h : Runs B Rb ov bv mg gs v r w) (hnx : r.next ≤ 1099511627776) (n : Int) (j : Nat) (hn : n = (j : Int)) (ho : r.orders[r.next]? = some ⟨12, n⟩) (r0 r' : Rn) (hr0 : r0 = { r with next := r.next + 1 }) (hp : r0.pile.length ≤ 1099511627776) (hl : r0.leaks.length ≤ 1099511627775) (xs : List Int) (x : Int) (hx : r0.pile = xs ++ [x]) (hq : x ≠ 0) (hres : r' = (({ r0 with pile := xs } : Rn).which true)) :
    Calls Tryz.prog 29 #[.pointer (some ⟨Rb, 0, none⟩)] w (RPost B Rb ov bv mg gs v r' (.tuple #[]) w) := by
  have HR := Lib.hid h; have HRES := Lib.hid hres
  have hlt := h.lt
  obtain ⟨og, ocap, rfl, hocap, homx, hfl, hogl, x0, x1⟩ := h.orderAt _ _ ho
  obtain ⟨⟨c0, _, c2, _⟩, hfz⟩ := h.open
  have f2 := hfz 2
  dsimp only at x0 x1
  generalize hxx : r.next = nx at *
  have b1 : IntKind.i64.wrap ((nx : Int) + 1) = ((nx + 1 : Nat) : Int) := by rw [IntWalk.i64_in _ (by omega)]; omega
  obtain ⟨hw0, ht0⟩ := h.cell 2 (.int .i64 ((nx : Int) + 1)) r0 (by rw [hr0]; rfl) (by rw [hr0]) (by rw [hr0]) (by rw [hr0]) (by rw [hr0]) (by rw [hr0]) (by rw [hr0])
  have HW := Lib.hid ((hw0.alloc (.cells #[.int .i64 12, .int .i64 n] 120)).drew)
  have HTW := Lib.hid ((ht0.alloc (.cells #[.int .i64 12, .int .i64 n] 120)).drew)
  have HBX := Lib.hid (fun (v' : RV) (w' : World) (ht : WentR Rb gs v v' (((w.setCell ⟨Rb, 2, none⟩ (.int .i64 ((nx : Int) + 1))).alloc (.cells #[.int .i64 12, .int .i64 n] 120)).drew) w') => two ((ht.turn.block w.heap.size (by show w.heap.size < ((w.setCell ⟨Rb, 2, none⟩ (.int .i64 ((nx : Int) + 1))).alloc (.cells #[.int .i64 12, .int .i64 n] 120)).heap.size; simp) (fun hx => by have := (h.xlow _ hx).2; omega)).trans (show ((w.setCell ⟨Rb, 2, none⟩ (.int .i64 ((nx : Int) + 1))).alloc (.cells #[.int .i64 12, .int .i64 n] 120)).heap[w.heap.size]? = _ from alloc_at _ _ _ (by simp))))
  have HSZ := Lib.hid (show w.heap.size < (((w.setCell ⟨Rb, 2, none⟩ (.int .i64 ((nx : Int) + 1))).alloc (.cells #[.int .i64 12, .int .i64 n] 120)).drew).heap.size by show w.heap.size < ((w.setCell ⟨Rb, 2, none⟩ (.int .i64 ((nx : Int) + 1))).alloc (.cells #[.int .i64 12, .int .i64 n] 120)).heap.size; simp)
  have HR0 := Lib.hid hr0
  clear h hfz ho hxx hr0 hw0 ht0 hres
  go_enter Tryz.func29, Tryz.ntmps29
  go_wp2_with (fail)
  go_region
  have HX := Lib.hid hx
  clear hx
  subst hn
  obtain ⟨⟨y0, y1⟩, yf0, yf1⟩ := HBX.out _ _ (WentR.refl _ _ _ _)
  have hbs := HSZ.out
  go_wp2_with (fail)
  generalize ((w.setCell ⟨Rb, 2, none⟩ (.int .i64 ((nx : Int) + 1))).alloc (.cells #[.int .i64 12, .int .i64 ((j : Nat) : Int)] 120)).drew = W at *
  refine (turn_unless1 HW.out hp hl xs x HX.out j hq).mono ?_
  rintro e w9 ⟨rfl, v9, ht9, hr9⟩
  have HT9 := Lib.hid (HTW.out.trans ht9); have HR9 := Lib.hid hr9
  clear ht9 hr9
  go_wp2_with (fail)
  go_end0
  exact ⟨rfl, v9, HT9.out, by rw [HRES.out]; exact HR9.out⟩
set_option maxHeartbeats 8000000 in
set_option maxRecDepth 100000 in
theorem follow_leave13f {B Rb : Nat} {ov bv : Value} {mg : Nat} {gs : List Nat} {v : RV} {r : Rn} {w : World} (h : Runs B Rb ov bv mg gs v r w) (hnx : r.next ≤ 1099511627776) (n : Int) (j : Nat) (hn : n = (j : Int)) (ho : r.orders[r.next]? = some ⟨13, n⟩) (r0 r' : Rn) (hr0 : r0 = { r with next := r.next + 1 }) (hp : r0.pile.length ≤ 1099511627776) (hl : r0.leaks.length ≤ 1099511627775) (xs : List Int) (x : Int) (hx : r0.pile = xs ++ [x]) (hq : x = 0) (hres : r' = { (({ r0 with pile := xs } : Rn).which false).lay x with next := j }) :
    Calls Tryz.prog 29 #[.pointer (some ⟨Rb, 0, none⟩)] w (RPost B Rb ov bv mg gs v r' (.tuple #[]) w) := by
  have HR := Lib.hid h; have HRES := Lib.hid hres
  have hlt := h.lt
  obtain ⟨og, ocap, rfl, hocap, homx, hfl, hogl, x0, x1⟩ := h.orderAt _ _ ho
  obtain ⟨⟨c0, _, c2, _⟩, hfz⟩ := h.open
  have f2 := hfz 2
  dsimp only at x0 x1
  generalize hxx : r.next = nx at *
  have b1 : IntKind.i64.wrap ((nx : Int) + 1) = ((nx + 1 : Nat) : Int) := by rw [IntWalk.i64_in _ (by omega)]; omega
  obtain ⟨hw0, ht0⟩ := h.cell 2 (.int .i64 ((nx : Int) + 1)) r0 (by rw [hr0]; rfl) (by rw [hr0]) (by rw [hr0]) (by rw [hr0]) (by rw [hr0]) (by rw [hr0]) (by rw [hr0])
  have HW := Lib.hid ((hw0.alloc (.cells #[.int .i64 13, .int .i64 n] 120)).drew)
  have HTW := Lib.hid ((ht0.alloc (.cells #[.int .i64 13, .int .i64 n] 120)).drew)
  have HBX := Lib.hid (fun (v' : RV) (w' : World) (ht : WentR Rb gs v v' (((w.setCell ⟨Rb, 2, none⟩ (.int .i64 ((nx : Int) + 1))).alloc (.cells #[.int .i64 13, .int .i64 n] 120)).drew) w') => two ((ht.turn.block w.heap.size (by show w.heap.size < ((w.setCell ⟨Rb, 2, none⟩ (.int .i64 ((nx : Int) + 1))).alloc (.cells #[.int .i64 13, .int .i64 n] 120)).heap.size; simp) (fun hx => by have := (h.xlow _ hx).2; omega)).trans (show ((w.setCell ⟨Rb, 2, none⟩ (.int .i64 ((nx : Int) + 1))).alloc (.cells #[.int .i64 13, .int .i64 n] 120)).heap[w.heap.size]? = _ from alloc_at _ _ _ (by simp))))
  have HSZ := Lib.hid (show w.heap.size < (((w.setCell ⟨Rb, 2, none⟩ (.int .i64 ((nx : Int) + 1))).alloc (.cells #[.int .i64 13, .int .i64 n] 120)).drew).heap.size by show w.heap.size < ((w.setCell ⟨Rb, 2, none⟩ (.int .i64 ((nx : Int) + 1))).alloc (.cells #[.int .i64 13, .int .i64 n] 120)).heap.size; simp)
  have HR0 := Lib.hid hr0
  clear h hfz ho hxx hr0 hw0 ht0 hres
  go_enter Tryz.func29, Tryz.ntmps29
  go_wp2_with (fail)
  go_region
  have HX := Lib.hid hx
  clear hx
  subst hn
  obtain ⟨⟨y0, y1⟩, yf0, yf1⟩ := HBX.out _ _ (WentR.refl _ _ _ _)
  have hbs := HSZ.out
  go_wp2_with (fail)
  generalize ((w.setCell ⟨Rb, 2, none⟩ (.int .i64 ((nx : Int) + 1))).alloc (.cells #[.int .i64 13, .int .i64 ((j : Nat) : Int)] 120)).drew = W at *
  refine (turn_leave13f HW.out hp hl xs x HX.out j hq).mono ?_
  rintro e w9 ⟨rfl, v9, ht9, hr9⟩
  have HT9 := Lib.hid (HTW.out.trans ht9); have HR9 := Lib.hid hr9
  clear ht9 hr9
  go_wp2_with (fail)
  go_end0
  exact ⟨rfl, v9, HT9.out, by rw [HRES.out]; exact HR9.out⟩
set_option maxHeartbeats 8000000 in
set_option maxRecDepth 100000 in
theorem follow_leave13t {B Rb : Nat} {ov bv : Value} {mg : Nat} {gs : List Nat} {v : RV} {r : Rn} {w : World} (h : Runs B Rb ov bv mg gs v r w) (hnx : r.next ≤ 1099511627776) (n : Int) (j : Nat) (hn : n = (j : Int)) (ho : r.orders[r.next]? = some ⟨13, n⟩) (r0 r' : Rn) (hr0 : r0 = { r with next := r.next + 1 }) (hp : r0.pile.length ≤ 1099511627776) (hl : r0.leaks.length ≤ 1099511627775) (xs : List Int) (x : Int) (hx : r0.pile = xs ++ [x]) (hq : x ≠ 0) (hres : r' = (({ r0 with pile := xs } : Rn).which true)) :
    Calls Tryz.prog 29 #[.pointer (some ⟨Rb, 0, none⟩)] w (RPost B Rb ov bv mg gs v r' (.tuple #[]) w) := by
  have HR := Lib.hid h; have HRES := Lib.hid hres
  have hlt := h.lt
  obtain ⟨og, ocap, rfl, hocap, homx, hfl, hogl, x0, x1⟩ := h.orderAt _ _ ho
  obtain ⟨⟨c0, _, c2, _⟩, hfz⟩ := h.open
  have f2 := hfz 2
  dsimp only at x0 x1
  generalize hxx : r.next = nx at *
  have b1 : IntKind.i64.wrap ((nx : Int) + 1) = ((nx + 1 : Nat) : Int) := by rw [IntWalk.i64_in _ (by omega)]; omega
  obtain ⟨hw0, ht0⟩ := h.cell 2 (.int .i64 ((nx : Int) + 1)) r0 (by rw [hr0]; rfl) (by rw [hr0]) (by rw [hr0]) (by rw [hr0]) (by rw [hr0]) (by rw [hr0]) (by rw [hr0])
  have HW := Lib.hid ((hw0.alloc (.cells #[.int .i64 13, .int .i64 n] 120)).drew)
  have HTW := Lib.hid ((ht0.alloc (.cells #[.int .i64 13, .int .i64 n] 120)).drew)
  have HBX := Lib.hid (fun (v' : RV) (w' : World) (ht : WentR Rb gs v v' (((w.setCell ⟨Rb, 2, none⟩ (.int .i64 ((nx : Int) + 1))).alloc (.cells #[.int .i64 13, .int .i64 n] 120)).drew) w') => two ((ht.turn.block w.heap.size (by show w.heap.size < ((w.setCell ⟨Rb, 2, none⟩ (.int .i64 ((nx : Int) + 1))).alloc (.cells #[.int .i64 13, .int .i64 n] 120)).heap.size; simp) (fun hx => by have := (h.xlow _ hx).2; omega)).trans (show ((w.setCell ⟨Rb, 2, none⟩ (.int .i64 ((nx : Int) + 1))).alloc (.cells #[.int .i64 13, .int .i64 n] 120)).heap[w.heap.size]? = _ from alloc_at _ _ _ (by simp))))
  have HSZ := Lib.hid (show w.heap.size < (((w.setCell ⟨Rb, 2, none⟩ (.int .i64 ((nx : Int) + 1))).alloc (.cells #[.int .i64 13, .int .i64 n] 120)).drew).heap.size by show w.heap.size < ((w.setCell ⟨Rb, 2, none⟩ (.int .i64 ((nx : Int) + 1))).alloc (.cells #[.int .i64 13, .int .i64 n] 120)).heap.size; simp)
  have HR0 := Lib.hid hr0
  clear h hfz ho hxx hr0 hw0 ht0 hres
  go_enter Tryz.func29, Tryz.ntmps29
  go_wp2_with (fail)
  go_region
  have HX := Lib.hid hx
  clear hx
  subst hn
  obtain ⟨⟨y0, y1⟩, yf0, yf1⟩ := HBX.out _ _ (WentR.refl _ _ _ _)
  have hbs := HSZ.out
  go_wp2_with (fail)
  generalize ((w.setCell ⟨Rb, 2, none⟩ (.int .i64 ((nx : Int) + 1))).alloc (.cells #[.int .i64 13, .int .i64 ((j : Nat) : Int)] 120)).drew = W at *
  refine (turn_leave13t HW.out hp hl xs x HX.out j hq).mono ?_
  rintro e w9 ⟨rfl, v9, ht9, hr9⟩
  have HT9 := Lib.hid (HTW.out.trans ht9); have HR9 := Lib.hid hr9
  clear ht9 hr9
  go_wp2_with (fail)
  go_end0
  exact ⟨rfl, v9, HT9.out, by rw [HRES.out]; exact HR9.out⟩
set_option maxHeartbeats 8000000 in
set_option maxRecDepth 100000 in
theorem follow_leave14f {B Rb : Nat} {ov bv : Value} {mg : Nat} {gs : List Nat} {v : RV} {r : Rn} {w : World} (h : Runs B Rb ov bv mg gs v r w) (hnx : r.next ≤ 1099511627776) (n : Int) (j : Nat) (hn : n = (j : Int)) (ho : r.orders[r.next]? = some ⟨14, n⟩) (r0 r' : Rn) (hr0 : r0 = { r with next := r.next + 1 }) (hp : r0.pile.length ≤ 1099511627776) (hl : r0.leaks.length ≤ 1099511627775) (xs : List Int) (x : Int) (hx : r0.pile = xs ++ [x]) (hq : x = 0) (hres : r' = (({ r0 with pile := xs } : Rn).which false)) :
    Calls Tryz.prog 29 #[.pointer (some ⟨Rb, 0, none⟩)] w (RPost B Rb ov bv mg gs v r' (.tuple #[]) w) := by
  have HR := Lib.hid h; have HRES := Lib.hid hres
  have hlt := h.lt
  obtain ⟨og, ocap, rfl, hocap, homx, hfl, hogl, x0, x1⟩ := h.orderAt _ _ ho
  obtain ⟨⟨c0, _, c2, _⟩, hfz⟩ := h.open
  have f2 := hfz 2
  dsimp only at x0 x1
  generalize hxx : r.next = nx at *
  have b1 : IntKind.i64.wrap ((nx : Int) + 1) = ((nx + 1 : Nat) : Int) := by rw [IntWalk.i64_in _ (by omega)]; omega
  obtain ⟨hw0, ht0⟩ := h.cell 2 (.int .i64 ((nx : Int) + 1)) r0 (by rw [hr0]; rfl) (by rw [hr0]) (by rw [hr0]) (by rw [hr0]) (by rw [hr0]) (by rw [hr0]) (by rw [hr0])
  have HW := Lib.hid ((hw0.alloc (.cells #[.int .i64 14, .int .i64 n] 120)).drew)
  have HTW := Lib.hid ((ht0.alloc (.cells #[.int .i64 14, .int .i64 n] 120)).drew)
  have HBX := Lib.hid (fun (v' : RV) (w' : World) (ht : WentR Rb gs v v' (((w.setCell ⟨Rb, 2, none⟩ (.int .i64 ((nx : Int) + 1))).alloc (.cells #[.int .i64 14, .int .i64 n] 120)).drew) w') => two ((ht.turn.block w.heap.size (by show w.heap.size < ((w.setCell ⟨Rb, 2, none⟩ (.int .i64 ((nx : Int) + 1))).alloc (.cells #[.int .i64 14, .int .i64 n] 120)).heap.size; simp) (fun hx => by have := (h.xlow _ hx).2; omega)).trans (show ((w.setCell ⟨Rb, 2, none⟩ (.int .i64 ((nx : Int) + 1))).alloc (.cells #[.int .i64 14, .int .i64 n] 120)).heap[w.heap.size]? = _ from alloc_at _ _ _ (by simp))))
  have HSZ := Lib.hid (show w.heap.size < (((w.setCell ⟨Rb, 2, none⟩ (.int .i64 ((nx : Int) + 1))).alloc (.cells #[.int .i64 14, .int .i64 n] 120)).drew).heap.size by show w.heap.size < ((w.setCell ⟨Rb, 2, none⟩ (.int .i64 ((nx : Int) + 1))).alloc (.cells #[.int .i64 14, .int .i64 n] 120)).heap.size; simp)
  have HR0 := Lib.hid hr0
  clear h hfz ho hxx hr0 hw0 ht0 hres
  go_enter Tryz.func29, Tryz.ntmps29
  go_wp2_with (fail)
  go_region
  have HX := Lib.hid hx
  clear hx
  subst hn
  obtain ⟨⟨y0, y1⟩, yf0, yf1⟩ := HBX.out _ _ (WentR.refl _ _ _ _)
  have hbs := HSZ.out
  go_wp2_with (fail)
  generalize ((w.setCell ⟨Rb, 2, none⟩ (.int .i64 ((nx : Int) + 1))).alloc (.cells #[.int .i64 14, .int .i64 ((j : Nat) : Int)] 120)).drew = W at *
  refine (turn_leave14f HW.out hp hl xs x HX.out j hq).mono ?_
  rintro e w9 ⟨rfl, v9, ht9, hr9⟩
  have HT9 := Lib.hid (HTW.out.trans ht9); have HR9 := Lib.hid hr9
  clear ht9 hr9
  go_wp2_with (fail)
  go_end0
  exact ⟨rfl, v9, HT9.out, by rw [HRES.out]; exact HR9.out⟩
set_option maxHeartbeats 8000000 in
set_option maxRecDepth 100000 in
theorem follow_leave14t {B Rb : Nat} {ov bv : Value} {mg : Nat} {gs : List Nat} {v : RV} {r : Rn} {w : World} (h : Runs B Rb ov bv mg gs v r w) (hnx : r.next ≤ 1099511627776) (n : Int) (j : Nat) (hn : n = (j : Int)) (ho : r.orders[r.next]? = some ⟨14, n⟩) (r0 r' : Rn) (hr0 : r0 = { r with next := r.next + 1 }) (hp : r0.pile.length ≤ 1099511627776) (hl : r0.leaks.length ≤ 1099511627775) (xs : List Int) (x : Int) (hx : r0.pile = xs ++ [x]) (hq : x ≠ 0) (hres : r' = { (({ r0 with pile := xs } : Rn).which true).lay x with next := j }) :
    Calls Tryz.prog 29 #[.pointer (some ⟨Rb, 0, none⟩)] w (RPost B Rb ov bv mg gs v r' (.tuple #[]) w) := by
  have HR := Lib.hid h; have HRES := Lib.hid hres
  have hlt := h.lt
  obtain ⟨og, ocap, rfl, hocap, homx, hfl, hogl, x0, x1⟩ := h.orderAt _ _ ho
  obtain ⟨⟨c0, _, c2, _⟩, hfz⟩ := h.open
  have f2 := hfz 2
  dsimp only at x0 x1
  generalize hxx : r.next = nx at *
  have b1 : IntKind.i64.wrap ((nx : Int) + 1) = ((nx + 1 : Nat) : Int) := by rw [IntWalk.i64_in _ (by omega)]; omega
  obtain ⟨hw0, ht0⟩ := h.cell 2 (.int .i64 ((nx : Int) + 1)) r0 (by rw [hr0]; rfl) (by rw [hr0]) (by rw [hr0]) (by rw [hr0]) (by rw [hr0]) (by rw [hr0]) (by rw [hr0])
  have HW := Lib.hid ((hw0.alloc (.cells #[.int .i64 14, .int .i64 n] 120)).drew)
  have HTW := Lib.hid ((ht0.alloc (.cells #[.int .i64 14, .int .i64 n] 120)).drew)
  have HBX := Lib.hid (fun (v' : RV) (w' : World) (ht : WentR Rb gs v v' (((w.setCell ⟨Rb, 2, none⟩ (.int .i64 ((nx : Int) + 1))).alloc (.cells #[.int .i64 14, .int .i64 n] 120)).drew) w') => two ((ht.turn.block w.heap.size (by show w.heap.size < ((w.setCell ⟨Rb, 2, none⟩ (.int .i64 ((nx : Int) + 1))).alloc (.cells #[.int .i64 14, .int .i64 n] 120)).heap.size; simp) (fun hx => by have := (h.xlow _ hx).2; omega)).trans (show ((w.setCell ⟨Rb, 2, none⟩ (.int .i64 ((nx : Int) + 1))).alloc (.cells #[.int .i64 14, .int .i64 n] 120)).heap[w.heap.size]? = _ from alloc_at _ _ _ (by simp))))
  have HSZ := Lib.hid (show w.heap.size < (((w.setCell ⟨Rb, 2, none⟩ (.int .i64 ((nx : Int) + 1))).alloc (.cells #[.int .i64 14, .int .i64 n] 120)).drew).heap.size by show w.heap.size < ((w.setCell ⟨Rb, 2, none⟩ (.int .i64 ((nx : Int) + 1))).alloc (.cells #[.int .i64 14, .int .i64 n] 120)).heap.size; simp)
  have HR0 := Lib.hid hr0
  clear h hfz ho hxx hr0 hw0 ht0 hres
  go_enter Tryz.func29, Tryz.ntmps29
  go_wp2_with (fail)
  go_region
  have HX := Lib.hid hx
  clear hx
  subst hn
  obtain ⟨⟨y0, y1⟩, yf0, yf1⟩ := HBX.out _ _ (WentR.refl _ _ _ _)
  have hbs := HSZ.out
  go_wp2_with (fail)
  generalize ((w.setCell ⟨Rb, 2, none⟩ (.int .i64 ((nx : Int) + 1))).alloc (.cells #[.int .i64 14, .int .i64 ((j : Nat) : Int)] 120)).drew = W at *
  refine (turn_leave14t HW.out hp hl xs x HX.out j hq).mono ?_
  rintro e w9 ⟨rfl, v9, ht9, hr9⟩
  have HT9 := Lib.hid (HTW.out.trans ht9); have HR9 := Lib.hid hr9
  clear ht9 hr9
  go_wp2_with (fail)
  go_end0
  exact ⟨rfl, v9, HT9.out, by rw [HRES.out]; exact HR9.out⟩
end Go.Proofs.YtaomlahphlemdaaGreatDoor
