/-
  dom: least.
-/
import Derived.Test.YtipongpgmbhpkaaDomK
namespace Go.Proofs.Ytipongpgmbhpkaa
open Go.ChangeShapes Go.WideShapes Go.ChangeAt Go.RowKit
open Go.Proofs.Ytipongpgmbhpkaa.RegInv
set_option linter.unusedVariables false

/-- Rows that the finder hasn't are as they were. -/
def Rest3 (i : Nat) (rs rs' : List (Value × List Int)) : Prop := rs'.length = rs.length ∧ ∀ k, k ≠ i → k ≠ i + 1 → k ≠ i + 2 → rs'[k]? = rs[k]?
theorem Rest3.refl (i : Nat) (rs : List (Value × List Int)) : Rest3 i rs rs := ⟨rfl, fun _ _ _ _ => rfl⟩
theorem Rest3.set {i : Nat} {rs rs' : List (Value × List Int)} (h : Rest3 i rs rs') {j : Nat} (hj : j = i ∨ j = i + 1 ∨ j = i + 2) (r : Value × List Int) : Rest3 i rs (rs'.set j r) :=
  ⟨by rw [List.length_set]; exact h.1, fun k h0 h1 h2 => by rw [List.getElem?_set_ne (by omega)]; exact h.2 k h0 h1 h2⟩
/-- But for the finder's rows all that was there is as it was. -/
def KeptF (hv ev bv : Value) (w w' : World) : Prop := w.heap.size ≤ w'.heap.size ∧ ∀ k, k < w.heap.size → hv.ownBlock ≠ some k → ev.ownBlock ≠ some k → bv.ownBlock ≠ some k → w'.heap[k]? = w.heap[k]?
theorem KeptF.refl (hv ev bv : Value) (w : World) : KeptF hv ev bv w w := ⟨Nat.le_refl _, fun _ _ _ _ _ => rfl⟩
theorem KeptF.put {hv ev bv : Value} {w w' : World} (h : KeptF hv ev bv w w') {g : Nat} (hg : hv.ownBlock = some g ∨ ev.ownBlock = some g ∨ bv.ownBlock = some g) (j : Nat) (u : Value) : KeptF hv ev bv w (w'.setCell ⟨g, j, none⟩ u) :=
  ⟨by rw [World.size_setCell]; exact h.1, fun k hk a b c => (Below.heap_setCell _ _ _ _ (fun e => by
    have e' : k = g := e
    subst e'
    rcases hg with hg | hg | hg
    · exact a hg
    · exact b hg
    · exact c hg)).trans (h.2 k hk a b c)⟩
theorem KeptF.grown {hv ev bv : Value} {w w1 w' : World} (h : KeptF hv ev bv w w1) (o : Obj) {r : Option Nat} (hg : (w1.alloc o).grownBy w' r) (hr : ∀ q, r = some q → w.heap.size ≤ q) : KeptF hv ev bv w w' :=
  ⟨Nat.le_trans h.1 (Nat.le_trans (by simp) hg.size), fun k hk a b c => ((hg.block k (by simp; have := h.1; omega) (fun e => by have := hr k e.symm; omega)).trans (Below.heap_alloc _ _ _ (by have := h.1; omega))).trans (h.2 k hk a b c)⟩
def LeastPost (B F : Nat) (hv ev bv : Value) (f : Fn) (rs : List (Value × List Int)) (i : Nat) (v : Int) (w : World) (e : Ending) (w' : World) : Prop :=
  e = .returned (.int .i64 (f.least v).1) ∧ Below B w w' ∧ KeptF hv ev bv w w' ∧ ∃ rs', FinderAt B w' F hv ev bv (f.least v).2 rs' i ∧ Rest3 i rs rs'
theorem FinderAt.cells {B : Nat} {w : World} {F n g1 g2 g3 n1 n2 n3 c1 c2 c3 : Nat} {f : Fn} {rs : List (Value × List Int)} {i : Nat} (h : FinderAt B w F (.slice (some ⟨g1, 0, none⟩) n1 c1) (.slice (some ⟨g2, 0, none⟩) n2 c2) (.slice (some ⟨g3, 0, none⟩) n3 c3) f rs i) (hok : f.ok n) {j : Nat} (hj : j < n) :
    w.cell? ⟨g1, j, none⟩ = some (.int .i64 (gi f.hangs j)) ∧ w.cell? ⟨g2, j, none⟩ = some (.int .i64 (gi f.entry j)) ∧ w.cell? ⟨g3, j, none⟩ = some (.int .i64 (gi f.best j)) :=
  ⟨(own_at (h.bag.row _ _ _ h.hangs) (gi_get (by rw [hok.hl]; exact hj))).1, (own_at (h.bag.row _ _ _ h.entry) (gi_get (by rw [hok.el]; exact hj))).1, (own_at (h.bag.row _ _ _ h.best) (gi_get (by rw [hok.bl]; exact hj))).1⟩
theorem FinderAt.froz {B : Nat} {w : World} {F g1 g2 g3 n1 n2 n3 c1 c2 c3 : Nat} {f : Fn} {rs : List (Value × List Int)} {i : Nat} (h : FinderAt B w F (.slice (some ⟨g1, 0, none⟩) n1 c1) (.slice (some ⟨g2, 0, none⟩) n2 c2) (.slice (some ⟨g3, 0, none⟩) n3 c3) f rs i) (j : Nat) :
    (w.frozen? ⟨g1, j, none⟩ = false ∧ w.frozen? ⟨g2, j, none⟩ = false ∧ w.frozen? ⟨g3, j, none⟩ = false) ∧ (B ≤ g1 ∧ B ≤ g2 ∧ B ≤ g3) ∧ (g1 < w.heap.size ∧ g2 < w.heap.size ∧ g3 < w.heap.size) := by
  have a := h.bag.row _ _ _ h.hangs; have b := h.bag.row _ _ _ h.entry; have c := h.bag.row _ _ _ h.best
  refine ⟨⟨?_, ?_, ?_⟩, ⟨(a.lt g1 rfl).1, (b.lt g2 rfl).1, (c.lt g3 rfl).1⟩, (a.lt g1 rfl).2, (b.lt g2 rfl).2, (c.lt g3 rfl).2⟩
  · obtain ⟨cs, hcs⟩ := own_type a (q := g1) rfl; exact Lib.frozen_of_heap hcs j
  · obtain ⟨cs, hcs⟩ := own_type b (q := g2) rfl; exact Lib.frozen_of_heap hcs j
  · obtain ⟨cs, hcs⟩ := own_type c (q := g3) rfl; exact Lib.frozen_of_heap hcs j
/-- The finder's rows as slices. -/
theorem FinderAt.slices {B : Nat} {w : World} {F n : Nat} {hv ev bv : Value} {f : Fn} {rs : List (Value × List Int)} {i : Nat} (h : FinderAt B w F hv ev bv f rs i) (hok : f.ok n) (hn : 0 < n) :
    ∃ g1 g2 g3 c1 c2 c3, hv = .slice (some ⟨g1, 0, none⟩) n c1 ∧ ev = .slice (some ⟨g2, 0, none⟩) n c2 ∧ bv = .slice (some ⟨g3, 0, none⟩) n c3 := by
  have key : ∀ {v : Value} {xs : List Int}, w.ownsRow B 3 1 v xs.length (xs.map iV) → xs.length = n → ∃ g c, v = .slice (some ⟨g, 0, none⟩) n c := by
    intro v xs hr hl
    rcases own_slice hr with ⟨_, h0⟩ | ⟨g, c, h0, _⟩
    · omega
    · exact ⟨g, c, by rw [h0, hl]⟩
  obtain ⟨g1, c1, h1⟩ := key (h.bag.row _ _ _ h.hangs) hok.hl
  obtain ⟨g2, c2, h2⟩ := key (h.bag.row _ _ _ h.entry) hok.el
  obtain ⟨g3, c3, h3⟩ := key (h.bag.row _ _ _ h.best) hok.bl
  exact ⟨g1, g2, g3, c1, c2, c3, h1, h2, h3⟩
theorem FinderAt.more {B : Nat} {w : World} {F : Nat} {hv ev bv v : Value} {f : Fn} {rs : List (Value × List Int)} {i : Nat} {xs : List Int} (h : FinderAt B w F hv ev bv f rs i) (hown : w.ownsRow B 3 1 v xs.length (xs.map iV)) (hnew : ∀ (k : Nat) (r : Value × List Int), rs[k]? = some r → ∀ q, r.1.ownBlock = some q → v.ownBlock ≠ some q) : FinderAt B w F hv ev bv f (rs ++ [(v, xs)]) i := by
  refine ⟨h.box, h.low, h.bag.more v xs hown hnew, ?_, ?_, ?_⟩
  · rw [List.getElem?_append_left (List.getElem?_eq_some_iff.1 h.hangs).1]; exact h.hangs
  · rw [List.getElem?_append_left (List.getElem?_eq_some_iff.1 h.entry).1]; exact h.entry
  · rw [List.getElem?_append_left (List.getElem?_eq_some_iff.1 h.best).1]; exact h.best
theorem FinderAt.approw {B : Nat} {w w' : World} {F k n g' cap' : Nat} {hv ev bv v : Value} {f : Fn} {rs : List (Value × List Int)} {i : Nat} {xs : List Int} (h : FinderAt B w F hv ev bv f rs i) (hk : rs[k]? = some (v, xs)) (hki : k ≠ i ∧ k ≠ i + 1 ∧ k ≠ i + 2) (hn : xs.length = n) (x : Int) (hown : w'.ownsRow B 3 1 (.slice (some ⟨g', 0, none⟩) (n + 1) cap') (n + 1) (xs.map iV ++ [.int .i64 x])) (hg : w.grownBy w' v.ownBlock) (hat : v.ownBlock = some g' ∨ w.heap.size ≤ g') : FinderAt B w' F hv ev bv f (rs.set k (.slice (some ⟨g', 0, none⟩) (n + 1) cap', xs ++ [x])) i := by
  refine ⟨(hg.block F (lt_heap h.box) (fun e => h.bag.ne_box h.box (by decide) hk e.symm rfl)).trans h.box, h.low, h.bag.app hk hn x hown hg hat, ?_, ?_, ?_⟩
  · rw [List.getElem?_set_ne (by omega)]; exact h.hangs
  · rw [List.getElem?_set_ne (by omega)]; exact h.entry
  · rw [List.getElem?_set_ne (by omega)]; exact h.best
theorem FinderAt.less {B : Nat} {w : World} {F : Nat} {hv ev bv : Value} {f : Fn} {rs : List (Value × List Int)} {i m : Nat} (h : FinderAt B w F hv ev bv f rs i) (hm : i + 2 < m) : FinderAt B w F hv ev bv f (rs.take m) i := by
  refine ⟨h.box, h.low, h.bag.sub (fun k => k) (fun _ _ _ _ hne => hne) (fun k r hk => ?_), ?_, ?_, ?_⟩
  · rw [List.getElem?_take] at hk
    split at hk
    · exact hk
    · cases hk
  · rw [List.getElem?_take, if_pos (by omega)]; exact h.hangs
  · rw [List.getElem?_take, if_pos (by omega)]; exact h.entry
  · rw [List.getElem?_take, if_pos (by omega)]; exact h.best
theorem shorts_snoc : ∀ (l : List Int) (f : Fn) (u : Int), f.shorts (l ++ [u]) = (f.shorts l).short u
  | [], f, u => rfl
  | x :: xs, f, u => by simp only [List.cons_append, Fn.shorts]; exact shorts_snoc xs _ u
set_option maxHeartbeats 8000000 in
set_option maxRecDepth 100000 in
theorem least_any {B : Nat} {w : World} {F n : Nat} {hv ev bv : Value} {f : Fn} {rs : List (Value × List Int)} {i : Nat} (h : FinderAt B w F hv ev bv f rs i) (hok : f.ok n) (hn : n ≤ 1000000) (v : Nat) (hvn : v < n) :
    Calls Try.prog 30 #[.pointer (some ⟨F, 0, none⟩), .int .i64 v] w (LeastPost B F hv ev bv f rs i v w) := by
  obtain ⟨i0, hi, hz0⟩ := Option.map_eq_some_iff.1 info3
  obtain ⟨h1, h2, h3⟩ : i0.zero = some (.int .i64 0) ∧ i0.size = 1 ∧ i0.bytes = 8 := by simpa using hz0
  have HI := Lib.hid hi; have HZ0 := Lib.hid h1; have HZ1 := Lib.hid h2; have HZ2 := Lib.hid h3
  clear hi h1 h2 h3 hz0
  obtain ⟨g1, g2, g3, cc1, cc2, cc3, rfl, rfl, rfl⟩ := h.slices hok (by omega)
  obtain ⟨⟨b0, b1, b2⟩, hfz, hFl⟩ := wbox h.box
  obtain ⟨c0, _, _⟩ := h.cells hok hvn
  have hvi : (v : Int) < (n : Int) := by omega
  have hvv := hok.at hvn
  have HF := Lib.hid h; have HOK := Lib.hid hok; have HVV := Lib.hid hvv
  have hBw : B ≤ w.heap.size := Nat.le_trans h.low (Nat.le_of_lt hFl)
  have HBW := Lib.hid hBw
  clear h hok hfz hvv b1 b2 hBw
  obtain ⟨x, hx⟩ : ∃ x, gi f.hangs v = x := ⟨_, rfl⟩
  rw [hx] at c0
  by_cases h1 : x = -1
  · have HE := Lib.hid (show f.least v = ((v : Int), f) by unfold Fn.least; rw [hx, if_pos h1])
    subst h1
    clear hx
    go_enter Try.func30, Try.ntmps30
    go_wp2_with (fail)
    go_ret
    unfold LeastPost
    rw [HE.out]
    exact ⟨rfl, Below.refl _ _, KeptF.refl _ _ _ _, rs, HF.out, Rest3.refl _ _⟩
  · have qx : (x == -1) = false := by simpa using h1
    have HX := Lib.hid hx; have HX1 := Lib.hid h1
    clear hx h1
    go_enter Try.func30, Try.ntmps30
    go_wp2_with (fail)
    go_loopg [5, 6] n (fun k wv uv wr => ∃ (acc : List Int) (u : Nat) (wa : Option Addr) (wc m : Nat), wv = .slice wa m wc ∧ acc.length = m ∧ uv = .int .i64 u ∧ u < n ∧ u < k ∧ m + k ≤ n ∧ gi f.hangs u ≠ -1 ∧ acc ++ f.way k u = f.way n v ∧ Below B w wr ∧ FinderAt B wr F (.slice (some ⟨g1, 0, none⟩) n cc1) (.slice (some ⟨g2, 0, none⟩) n cc2) (.slice (some ⟨g3, 0, none⟩) n cc3) f (rs ++ [(.slice wa m wc, acc)]) i ∧ KeptF (.slice (some ⟨g1, 0, none⟩) n cc1) (.slice (some ⟨g2, 0, none⟩) n cc2) (.slice (some ⟨g3, 0, none⟩) n cc3) w wr ∧ (∀ q, (Value.slice wa m wc).ownBlock = some q → w.heap.size ≤ q))
    case atStart => exact ⟨[], v, none, 0, 0, rfl, rfl, rfl, hvn, hvn, by omega, by rw [HX.out]; exact HX1.out, rfl, Below.refl _ _, HF.out.more (own_nil _ _ _) (fun k r hk q hq e => by cases e), KeptF.refl _ _ _ _, fun q e => by cases e⟩
    case round =>
      obtain ⟨acc, u, wa, wc, m, rfl, hml, rfl, hun, huk, hmk, hhu, hacc, hbr, hfr, hkf, hwq⟩ := hrel
      obtain ⟨k', hk'⟩ : ∃ k', gk = k' + 1 := ⟨gk - 1, by omega⟩
      subst hk'
      obtain ⟨o, ho⟩ : ∃ o : Nat, gi f.hangs u = o := ⟨(gi f.hangs u).toNat, by rcases HOK.out.at hun with e | e <;> omega⟩
      have hou : o < u := by rcases HOK.out.at hun with e | e <;> omega
      have hon : o < n := by omega
      obtain ⟨y, hy⟩ : ∃ y, gi f.hangs o = y := ⟨_, rfl⟩
      have hui : (u : Int) < (n : Int) := by omega
      have hoi : (o : Int) < (n : Int) := by omega
      have k1 := (hfr.cells HOK.out hun).1
      have k2 := (hfr.cells HOK.out hon).1
      rw [ho] at k1; rw [hy] at k2
      obtain ⟨⟨b0', _, _⟩, _, hFl'⟩ := wbox hfr.box
      have HML := Lib.hid hml; have HACC := Lib.hid hacc; have HBR := Lib.hid hbr; have HFR := Lib.hid hfr; have HO := Lib.hid ho; have HY := Lib.hid hy; have HUK := Lib.hid huk; have HKF := Lib.hid hkf; have HWQ := Lib.hid hwq; have HMK := Lib.hid hmk
      have HOU := Lib.hid hou
      clear c0 b0 hFl hml hacc hbr hfr ho hy huk hmk hhu hou hkf hwq
      by_cases hy1 : y = -1
      · subst hy1
        have HEND := Lib.hid (show acc = f.way n v from by
          have := HACC.out
          rw [Fn.way, HO.out, HY.out, if_pos rfl, List.append_nil] at this
          exact this)
        go_upto_region 5 with (fail)
        go_quiet (fail)
        have hwayF := HOK.out.way n v hvn (by rw [HX.out]; exact HX1.out)
        rw [← HEND.out] at hwayF
        obtain ⟨hin, hpw⟩ := hwayF
        have HIN := Lib.hid hin
        have HND := Lib.hid (show acc.Nodup from by unfold List.Nodup; exact hpw.imp (fun hab e => by omega))
        have HLE := Lib.hid (show f.least v = (gi (f.shorts acc.reverse).best v, f.shorts acc.reverse) from by
          unfold Fn.least
          rw [HX.out, if_neg HX1.out, HOK.out.hl, HEND.out])
        have HB5 := Lib.hid (below_drewN HBR.out nq)
        have HK5 := Lib.hid (show KeptF (.slice (some ⟨g1, 0, none⟩) n cc1) (.slice (some ⟨g2, 0, none⟩) n cc2) (.slice (some ⟨g3, 0, none⟩) n cc3) w (wr.drewN nq) from HKF.out)
        have HF5 := Lib.hid (HFR.out.below (below_drewN (Below.refl wr.heap.size wr) nq))
        obtain ⟨z, hz⟩ : ∃ z : Int, z = (m : Int) - 1 := ⟨_, rfl⟩
        have HZ := Lib.hid hz
        have HMM := Lib.hid (show m ≤ n from by have := HMK.out; omega)
        have HWZ := Lib.hid (show wrap64 ((m : Int) - 1) = z from by rw [hz]; exact Go.IntWalk.wrap64_in _ (by have := HMM.out; omega))
        clear k1 k2 HBR HFR b0' hFl' hin hpw hz HUK HMK HOU HACC hui hoi hon hun HO HY HKF
        generalize wr.drewN nq = w3 at *
        have hwz := HWZ.out
        go_wp2_with (fail)
        clear hwz
        go_loopg [7] m (fun k zv wr => ∃ (z : Int) (f2 : Fn) (rs2 : List (Value × List Int)), zv = .int .i64 z ∧ z + 1 = (k : Int) ∧ k ≤ m ∧ f2.ok n ∧ (∀ u ∈ acc.take k, f2.deep u) ∧ f2.shorts (acc.take k).reverse = f.shorts acc.reverse ∧ Below B w wr ∧ FinderAt B wr F (.slice (some ⟨g1, 0, none⟩) n cc1) (.slice (some ⟨g2, 0, none⟩) n cc2) (.slice (some ⟨g3, 0, none⟩) n cc3) f2 rs2 i ∧ Rest3 i (rs ++ [(.slice wa m wc, acc)]) rs2 ∧ KeptF (.slice (some ⟨g1, 0, none⟩) n cc1) (.slice (some ⟨g2, 0, none⟩) n cc2) (.slice (some ⟨g3, 0, none⟩) n cc3) w wr)
        case atStart => exact ⟨z, f, _, by rw [HWZ.out], by rw [HZ.out]; omega, Nat.le_refl _, HOK.out, fun u hu => (HIN.out u (List.mem_of_mem_take hu)).2.1, by rw [← HML.out, List.take_length], HB5.out, HF5.out, Rest3.refl _ _, HK5.out⟩
        case round =>
          clear HWZ HZ
          obtain ⟨z', f2, rs2, rfl, hzk, hkm, hok2, hdeep, hsh, hbr, hfr, hrest, hkf⟩ := hrel
          have HBR := Lib.hid hbr; have HFR := Lib.hid hfr; have HRE := Lib.hid hrest; have HOK2 := Lib.hid hok2; have HDE := Lib.hid hdeep; have HSH := Lib.hid hsh; have HZK := Lib.hid hzk; have HKF := Lib.hid hkf
          obtain ⟨⟨_, _, b2'⟩, _, hFl'⟩ := wbox hfr.box
          have k0 := (hfr.cells hok2 hvn).2.2
          clear hbr hrest hok2 hdeep hsh hkf
          by_cases hk0 : gk = 0
          · have qz : decide (0 ≤ z') = false := decide_eq_false (by omega)
            have HSE := Lib.hid (show f2 = f.shorts acc.reverse from by have := HSH.out; rw [hk0] at this; exact this)
            clear hzk hfr hk0 hkm
            go_wp2_with (fail)
            go_ret
            unfold LeastPost
            rw [HLE.out, ← HSE.out]
            refine ⟨rfl, HBR.out, HKF.out, rs2.take rs.length, HFR.out.less (List.getElem?_eq_some_iff.1 HF.out.best).1, ?_, ?_⟩
            · rw [List.length_take, HRE.out.1, List.length_append]; simp
            · intro k a1 a2 a3
              rw [List.getElem?_take]
              split
              · rename_i hlt
                rw [HRE.out.2 k a1 a2 a3, List.getElem?_append_left hlt]
              · rename_i hge
                rw [List.getElem?_eq_none (by omega)]
          · obtain ⟨k', hk'⟩ : ∃ k', gk = k' + 1 := ⟨gk - 1, by omega⟩
            subst hk'
            have hz0 : 0 ≤ z' := by omega
            have hzm : z' < (m : Int) := by omega
            have hzt : k' = z'.toNat := by omega
            have hil := (List.getElem?_eq_some_iff.1 HF.out.best).1
            have hwr := HFR.out.bag.row rs.length (.slice wa m wc) acc ((HRE.out.2 rs.length (by omega) (by omega) (by omega)).trans (by simp))
            obtain ⟨gw, hgw, _⟩ := own_head hwr (by rw [HML.out]; omega)
            subst hgw
            obtain ⟨ux, hux⟩ : ∃ ux, acc[k']? = some ux := ⟨_, List.getElem?_eq_getElem (by rw [HML.out]; omega)⟩
            have hur := (HIN.out ux (List.mem_of_getElem? hux)).1
            obtain ⟨u', hu'⟩ : ∃ u' : Nat, ux = u' := ⟨ux.toNat, by omega⟩
            subst hu'
            have k9 := (own_at hwr hux).1
            rw [hzt] at k9
            have htk : acc.take (k' + 1) = acc.take k' ++ [(u' : Int)] := by
              have hlt := (List.getElem?_eq_some_iff.1 hux).1
              rw [List.take_succ_eq_append_getElem hlt]
              rw [List.getElem?_eq_getElem hlt] at hux
              rw [Option.some.inj hux]
            have hun' : u' < n := by omega
            have hde : f2.deep u' := HDE.out _ (by rw [htk]; simp)
            obtain ⟨o', ho'⟩ : ∃ o' : Nat, gi f2.hangs u' = o' := ⟨(gi f2.hangs u').toNat, by rcases HOK2.out.at hun' with e | e; exact absurd e hde.1; omega⟩
            have hou' : o' < u' := by rcases HOK2.out.at hun' with e | e; exact absurd e hde.1; omega
            have hon' : o' < n := by omega
            obtain ⟨p, hp⟩ : ∃ p, gi f2.hangs o' = p := ⟨_, rfl⟩
            have hbr1 := HOK2.out.bin _ (gi_mem (v := o') (by rw [HOK2.out.bl]; exact hon'))
            have hbr2 := HOK2.out.bin _ (gi_mem (v := u') (by rw [HOK2.out.bl]; exact hun'))
            obtain ⟨bo, hbo⟩ : ∃ b : Nat, gi f2.best o' = b := ⟨(gi f2.best o').toNat, by omega⟩
            obtain ⟨bu, hbu⟩ : ∃ b : Nat, gi f2.best u' = b := ⟨(gi f2.best u').toNat, by omega⟩
            have hbon : bo < n := by omega
            have hbun : bu < n := by omega
            obtain ⟨eo, heo⟩ : ∃ e, gi f2.entry bo = e := ⟨_, rfl⟩
            obtain ⟨eu, heu⟩ : ∃ e, gi f2.entry bu = e := ⟨_, rfl⟩
            have m1 := (hfr.cells HOK2.out hun').1
            have m2 := (hfr.cells HOK2.out hon').1
            have m3 := (hfr.cells HOK2.out hon').2.2
            have m4 := (hfr.cells HOK2.out hun').2.2
            have m5 := (hfr.cells HOK2.out hbon).2.1
            have m6 := (hfr.cells HOK2.out hbun).2.1
            rw [ho'] at m1; rw [hp] at m2; rw [hbo] at m3; rw [hbu] at m4; rw [heo] at m5; rw [heu] at m6
            have i1 : (u' : Int) < (n : Int) := by omega
            have i2 : (o' : Int) < (n : Int) := by omega
            have i3 : (bo : Int) < (n : Int) := by omega
            have i4 : (bu : Int) < (n : Int) := by omega
            obtain ⟨⟨b0', b1', b2'⟩, _, hFl'⟩ := wbox hfr.box
            have HSHORT := Lib.hid (show f2.short u' = ⟨f2.hangs.set u' p, f2.entry, if eo < eu then f2.best.set u' (bo : Int) else f2.best⟩ from by
              unfold Fn.short
              dsimp only
              rw [ho', hbo, hbu, heo, heu, hp, Int.toNat_natCast])
            have HOK3 := Lib.hid (HOK2.out.short hun' hde.1 hde.2)
            have HDE3 := Lib.hid (show ∀ x ∈ acc.take k', (f2.short u').deep x from fun x hx => by
              have hx2 := HDE.out x (by rw [htk]; exact List.mem_append_left _ hx)
              have hx3 := (HIN.out x (List.mem_of_mem_take hx)).1
              obtain ⟨x', hx'⟩ : ∃ x' : Nat, x = x' := ⟨x.toNat, by omega⟩
              subst hx'
              refine HOK2.out.deeps hun' hde (by omega) (fun e => ?_) hx2
              subst e
              have hnd := HND.out.sublist (List.take_sublist (k' + 1) acc)
              rw [htk, List.nodup_append] at hnd
              exact hnd.2.2 _ hx _ (List.mem_singleton.2 rfl) rfl)
            have HSH3 := Lib.hid (show (f2.short u').shorts (acc.take k').reverse = f.shorts acc.reverse from by
              have := HSH.out
              rw [htk, List.reverse_append] at this
              exact this)
            have HZT := Lib.hid hzt
            have HP := Lib.hid hp; have HBO := Lib.hid hbo; have HON := Lib.hid hon'
            have HKM := Lib.hid hkm
            have HWZ2 := Lib.hid (show wrap64 (z' - 1) = z' - 1 from Go.IntWalk.wrap64_in _ (by have := HMM.out; omega))
            have hfr0 := HFR
            clear hfr hwr hux hur htk hde ho' hou' hp hbr1 hbr2 hbo hbu heo heu hil hzk hk0 hzt hkm k0 hbon hbun hon' HDE HSH
            by_cases hlt : eo < eu
            · rw [if_pos hlt] at HSHORT
              have ql : decide (eo < eu) = true := decide_eq_true hlt
              go_upto_region 13 with (fail)
              go_quiet (fail)
              go_upto_region 14 with (fail)
              have HFc := Lib.hid (HFR.out.below (w' := wr.drewN nq) ⟨rfl, rfl, rfl, Nat.le_refl _, fun _ _ => rfl⟩)
              have HBc := Lib.hid (below_drewN HBR.out nq)
              have HKd := Lib.hid (show KeptF (.slice (some ⟨g1, 0, none⟩) n cc1) (.slice (some ⟨g2, 0, none⟩) n cc2) (.slice (some ⟨g3, 0, none⟩) n cc3) w (wr.drewN nq).drew from HKF.out)
              clear HKF
              clear b0' b1' b2' m1 m2 m3 m4 m5 m6 k9 HFR HBR hFl' hfr0
              generalize wr.drewN nq = w4 at *
              obtain ⟨⟨_, _, d0⟩, _, _⟩ := wbox HFc.out.box
              have d1 := (HFc.out.cells HOK2.out HON.out).2.2
              rw [HBO.out] at d1
              go_still_tail 13, (by kernel_rfl)
              change wpList _ _ _ _ _ w4.drew
              have HFd := Lib.hid (HFc.out.below (w' := w4.drew) ⟨rfl, rfl, rfl, Nat.le_refl _, fun _ _ => rfl⟩)
              have HBd := Lib.hid (show Below B w w4.drew from ⟨HBc.out.os, HBc.out.tape, HBc.out.output, HBc.out.size, HBc.out.block⟩)
              clear d0 d1 HFc HBc
              generalize w4.drew = w5 at *
              have d2 := (HFd.out.cells HOK2.out hun').2.2
              have d3 := (HFd.out.froz u').1.2.2
              have d4 := (HFd.out.froz u').2.2.2.2
              go_upto_region 15 with (fail)
              have HF6 := Lib.hid (HFd.out.putbest HOK2.out.bl hun' (bo : Int))
              have HK6 := Lib.hid (HKd.out.put (g := g3) (.inr (.inr rfl)) u' (.int .i64 bo))
              have HB6 := Lib.hid (below_put HBd.out (HFd.out.froz u').2.1.2.2 u' (.int .i64 bo))
              clear d2 d3 d4 HFd HBd HKd
              generalize w5.setCell ⟨g3, u', none⟩ (.int .i64 bo) = w6 at *
              obtain ⟨⟨e0, _, _⟩, _, _⟩ := wbox HF6.out.box
              have e1 := (own_at (HF6.out.bag.row _ _ _ HF6.out.hangs) (gi_get (l := f2.hangs) (v := o') (by rw [HOK2.out.hl]; exact HON.out))).1
              rw [HP.out] at e1
              go_still_tail 13, (by kernel_rfl)
              change wpList _ _ _ _ _ w6.drew
              have HFe := Lib.hid (HF6.out.below (w' := w6.drew) ⟨rfl, rfl, rfl, Nat.le_refl _, fun _ _ => rfl⟩)
              have HKe := Lib.hid (show KeptF (.slice (some ⟨g1, 0, none⟩) n cc1) (.slice (some ⟨g2, 0, none⟩) n cc2) (.slice (some ⟨g3, 0, none⟩) n cc3) w w6.drew from HK6.out)
              have HBe := Lib.hid (show Below B w w6.drew from ⟨HB6.out.os, HB6.out.tape, HB6.out.output, HB6.out.size, HB6.out.block⟩)
              clear e0 e1 HF6 HB6 HK6
              generalize w6.drew = w7 at *
              have e2 := (own_at (HFe.out.bag.row _ _ _ HFe.out.hangs) (gi_get (l := f2.hangs) (v := u') (by rw [HOK2.out.hl]; exact hun'))).1
              have e3 := (HFe.out.froz u').1.1
              have e4 := (HFe.out.froz u').2.2.1
              have hwz2 := HWZ2.out
              go_wp2_with (fail)
              clear hwz2
              go_roundg k'
              case measure => omega
              case rel =>
                have hE := HSHORT.out
                have HF8 := HFe.out.puthangs HOK2.out.hl hun' p
                rw [hE] at HOK3 HDE3 HSH3
                exact ⟨z' - 1, _, _, by first | rfl | rw [HWZ2.out], by have := HZT.out; omega, by have := HKM.out; omega, HOK3.out, HDE3.out, HSH3.out, below_put HBe.out (HFe.out.froz u').2.1.1 _ _, HF8, (HRE.out.set (by omega) _).set (by omega) _, HKe.out.put (.inl rfl) _ _⟩
            · rw [if_neg hlt] at HSHORT
              have ql : decide (eo < eu) = false := decide_eq_false hlt
              go_upto_region 13 with (fail)
              go_quiet (fail)
              go_upto_region 15 with (fail)
              have HF6 := Lib.hid (HFR.out.below (w' := wr.drewN nq) ⟨rfl, rfl, rfl, Nat.le_refl _, fun _ _ => rfl⟩)
              have HB6 := Lib.hid (below_drewN HBR.out nq)
              have HK6 := Lib.hid (show KeptF (.slice (some ⟨g1, 0, none⟩) n cc1) (.slice (some ⟨g2, 0, none⟩) n cc2) (.slice (some ⟨g3, 0, none⟩) n cc3) w (wr.drewN nq) from HKF.out)
              clear HKF
              clear b0' b1' b2' m1 m2 m3 m4 m5 m6 k9 HFR HBR hFl' hfr0
              generalize wr.drewN nq = w6 at *
              obtain ⟨⟨e0, _, _⟩, _, _⟩ := wbox HF6.out.box
              have e1 := (own_at (HF6.out.bag.row _ _ _ HF6.out.hangs) (gi_get (l := f2.hangs) (v := o') (by rw [HOK2.out.hl]; exact HON.out))).1
              rw [HP.out] at e1
              go_still_tail 13, (by kernel_rfl)
              change wpList _ _ _ _ _ w6.drew
              have HFe := Lib.hid (HF6.out.below (w' := w6.drew) ⟨rfl, rfl, rfl, Nat.le_refl _, fun _ _ => rfl⟩)
              have HKe := Lib.hid (show KeptF (.slice (some ⟨g1, 0, none⟩) n cc1) (.slice (some ⟨g2, 0, none⟩) n cc2) (.slice (some ⟨g3, 0, none⟩) n cc3) w w6.drew from HK6.out)
              have HBe := Lib.hid (show Below B w w6.drew from ⟨HB6.out.os, HB6.out.tape, HB6.out.output, HB6.out.size, HB6.out.block⟩)
              clear e0 e1 HF6 HB6 HK6
              generalize w6.drew = w7 at *
              have e2 := (own_at (HFe.out.bag.row _ _ _ HFe.out.hangs) (gi_get (l := f2.hangs) (v := u') (by rw [HOK2.out.hl]; exact hun'))).1
              have e3 := (HFe.out.froz u').1.1
              have e4 := (HFe.out.froz u').2.2.1
              have hwz2 := HWZ2.out
              go_wp2_with (fail)
              clear hwz2
              go_roundg k'
              case measure => omega
              case rel =>
                have hE := HSHORT.out
                have HF8 := HFe.out.puthangs HOK2.out.hl hun' p
                rw [hE] at HOK3 HDE3 HSH3
                exact ⟨z' - 1, _, _, by first | rfl | rw [HWZ2.out], by have := HZT.out; omega, by have := HKM.out; omega, HOK3.out, HDE3.out, HSH3.out, below_put HBe.out (HFe.out.froz u').2.1.1 _ _, HF8, HRE.out.set (by omega) _, HKe.out.put (.inl rfl) _ _⟩
      · have qy : (y == -1) = false := by simpa using hy1
        have HY1 := Lib.hid hy1
        clear hy1
        go_upto_region 5 with (fail)
        go_quiet (fail)
        go_upto_region 7 with (fail)
        have HB5 := Lib.hid (below_drewN HBR.out nq)
        have HK5 := Lib.hid (show KeptF (.slice (some ⟨g1, 0, none⟩) n cc1) (.slice (some ⟨g2, 0, none⟩) n cc2) (.slice (some ⟨g3, 0, none⟩) n cc3) w (wr.drewN nq) from HKF.out)
        have HF5 := Lib.hid (HFR.out.below (below_drewN (Below.refl wr.heap.size wr) nq))
        clear k1 k2 HBR HFR b0' hFl' HKF
        generalize wr.drewN nq = w3 at *
        obtain ⟨_, _, hFl3⟩ := wbox HF5.out.box
        have hBw3 : B ≤ w3.heap.size := Nat.le_trans HF5.out.low (Nat.le_of_lt hFl3)
        go_wp2_with (at_builtin; refine wpList_append_lies _ rfl _ _ 35 rfl B 3 i0 (.int .i64 0) 1 8 Try.underlying35 HI.out HZ0.out HZ1.out HZ2.out rfl (by decide) _ m (acc.map iV) rfl ?hown ⟨w3.heap.size, 0, none⟩ 1 1 [.int .i64 u] rfl rfl ?hnews (one_int _) (by decide) ?h63 ?hby ?hba (w3.heap.size + 1) ?hH ?_)
        case hown =>
          have := (HF5.out.below ((Below.refl _ _).alloc (Nat.le_refl _) (.cells #[.int .i64 u] 3 (0, 0)))).bag.row rs.length (.slice wa m wc) acc (by simp)
          rw [HML.out] at this
          exact this
        case hnews => exact World.news_of_block (cs := #[.int .i64 u]) (alloc_at _ _ _ rfl)
        case h63 => have := HMK.out; unfold maxLen; omega
        case hby => have := HMK.out; omega
        case hba => first | omega | (simp; omega)
        all_goals try (case hH => simp)
        intro b4 cap4 w4 hown4 hgr4 hat4 hlt4
        have hfa := HF5.out.below ((Below.refl _ _).alloc (Nat.le_refl _) (.cells #[.int .i64 u] 3 (0, 0)))
        have hr4 := hfa.bag.row rs.length (.slice wa m wc) acc (by simp)
        have hf4 := hfa.approw (k := rs.length) (n := m) (v := .slice wa m wc) (xs := acc) (by simp) (by have := (List.getElem?_eq_some_iff.1 HF.out.best).1; omega) HML.out u hown4 hgr4 (by rcases hat4 with h | h; exact .inl h; exact .inr (by simp; omega))
        have hrs : (rs ++ [(Value.slice wa m wc, acc)]).set rs.length (.slice (some ⟨b4, 0, none⟩) (m + 1) cap4, acc ++ [(u : Int)]) = rs ++ [(.slice (some ⟨b4, 0, none⟩) (m + 1) cap4, acc ++ [(u : Int)])] := by rw [List.set_append_right _ _ (Nat.le_refl _), Nat.sub_self]; rfl
        rw [hrs] at hf4
        have HF4 := Lib.hid hf4
        have HB4 := Lib.hid ((HB5.out.alloc hBw3 _).grown hgr4 (by simp; omega) (fun k hk => (hr4.lt k hk).1))
        have HK4 := Lib.hid (HK5.out.grown (.cells #[.int .i64 u] 3 (0, 0)) hgr4 (fun q e => HWQ.out q e))
        have HQ4 := Lib.hid (show ∀ q, (Value.slice (some ⟨b4, 0, none⟩) (m + 1) cap4).ownBlock = some q → w.heap.size ≤ q from fun q e => by
          have e' : b4 = q := Option.some.inj e
          subst e'
          rcases hat4 with h | h
          · exact HWQ.out _ h
          · have := HK5.out.1
            have h2 : (w3.alloc (.cells #[.int .i64 u] 3 (0, 0))).heap.size = w3.heap.size + 1 := by simp
            omega)
        have k3 := (hf4.cells HOK.out hun).1
        rw [HO.out] at k3
        obtain ⟨⟨b4', _, _⟩, _, _⟩ := wbox hf4.box
        clear hfa hr4 hf4 hrs hown4 hgr4 hat4 hlt4 HF5 HB5
        go_wp2_with (fail)
        go_roundg k'
        case measure => omega
        case rel =>
          refine ⟨acc ++ [(u : Int)], o, some ⟨b4, 0, none⟩, cap4, m + 1, rfl, by rw [List.length_append, HML.out]; rfl, rfl, by omega, by have := HUK.out; have := HOU.out; omega, by have := HMK.out; omega, by rw [HY.out]; exact HY1.out, ?_, HB4.out, HF4.out, HK4.out, HQ4.out⟩
          have := HACC.out
          rw [Fn.way, HO.out, HY.out, if_neg HY1.out] at this
          rw [List.append_assoc]
          exact this
end Go.Proofs.Ytipongpgmbhpkaa
