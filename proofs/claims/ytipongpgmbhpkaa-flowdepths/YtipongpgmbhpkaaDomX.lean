/-
  flow: the loops' box; farthest.
-/
import Derived.Test.YtipongpgmbhpkaaDomW
namespace Go.Proofs.Ytipongpgmbhpkaa
open Go.ChangeShapes Go.WideShapes Go.ChangeAt Go.RowKit
set_option linter.unusedVariables false

/-- The box of the loops, and its two rows at i and i + 1 of a bag. -/
structure LoAt (B : Nat) (w : World) (P G : Nat) (tv uv ov fv : Value) (l : Lo) (rs : List (Value × List Int)) (i : Nat) : Prop where
  box : w.heap[P]? = some (.cells #[.pointer (some ⟨G, 0, none⟩), tv, uv, ov, fv] 58 (0, 0))
  low : B ≤ P
  bag : Bag B w rs
  outer : rs[i]? = some (ov, l.outer)
  far : rs[i + 1]? = some (fv, l.far)
theorem LoAt.below {B : Nat} {w w' : World} {P G : Nat} {tv uv ov fv : Value} {l : Lo} {rs : List (Value × List Int)} {i : Nat} (h : LoAt B w P G tv uv ov fv l rs i) (hb : Below w.heap.size w w') : LoAt B w' P G tv uv ov fv l rs i :=
  ⟨(hb.block P (lt_heap h.box)).trans h.box, h.low, h.bag.below hb, h.outer, h.far⟩
theorem LoAt.putfar {B : Nat} {w : World} {P G g n cap : Nat} {tv uv ov : Value} {l : Lo} {rs : List (Value × List Int)} {i : Nat} (h : LoAt B w P G tv uv ov (.slice (some ⟨g, 0, none⟩) n cap) l rs i) (hn : l.far.length = n) {j : Nat} (hj : j < n) (x : Int) :
    LoAt B (w.setCell ⟨g, j, none⟩ (.int .i64 x)) P G tv uv ov (.slice (some ⟨g, 0, none⟩) n cap) ⟨l.outer, l.far.set j x⟩ (rs.set (i + 1) (.slice (some ⟨g, 0, none⟩) n cap, l.far.set j x)) i := by
  have hl := (List.getElem?_eq_some_iff.1 h.far).1
  have h0 : P ≠ g := h.bag.ne_box h.box (by decide) h.far rfl
  refine ⟨(Below.heap_setCell _ _ _ _ h0).trans h.box, h.low, h.bag.put h.far hn hj x, ?_, ?_⟩
  · rw [List.getElem?_set_ne (by omega)]; exact h.outer
  · rw [List.getElem?_set_self hl]
theorem LoAt.putouter {B : Nat} {w : World} {P G g n cap : Nat} {tv uv fv : Value} {l : Lo} {rs : List (Value × List Int)} {i : Nat} (h : LoAt B w P G tv uv (.slice (some ⟨g, 0, none⟩) n cap) fv l rs i) (hn : l.outer.length = n) {j : Nat} (hj : j < n) (x : Int) :
    LoAt B (w.setCell ⟨g, j, none⟩ (.int .i64 x)) P G tv uv (.slice (some ⟨g, 0, none⟩) n cap) fv ⟨l.outer.set j x, l.far⟩ (rs.set i (.slice (some ⟨g, 0, none⟩) n cap, l.outer.set j x)) i := by
  have hl := (List.getElem?_eq_some_iff.1 h.outer).1
  have h0 : P ≠ g := h.bag.ne_box h.box (by decide) h.outer rfl
  refine ⟨(Below.heap_setCell _ _ _ _ h0).trans h.box, h.low, h.bag.put h.outer hn hj x, ?_, ?_⟩
  · rw [List.getElem?_set_self hl]
  · rw [List.getElem?_set_ne (by omega)]; exact h.far
/-- Rows that the loops haven't are as they were. -/
def Rest2 (i : Nat) (rs rs' : List (Value × List Int)) : Prop := rs'.length = rs.length ∧ ∀ k, k ≠ i → k ≠ i + 1 → rs'[k]? = rs[k]?
theorem Rest2.refl (i : Nat) (rs : List (Value × List Int)) : Rest2 i rs rs := ⟨rfl, fun _ _ _ => rfl⟩
theorem Rest2.set {i : Nat} {rs rs' : List (Value × List Int)} (h : Rest2 i rs rs') {j : Nat} (hj : j = i ∨ j = i + 1) (r : Value × List Int) : Rest2 i rs (rs'.set j r) :=
  ⟨by rw [List.length_set]; exact h.1, fun k h0 h1 => by rw [List.getElem?_set_ne (by omega)]; exact h.2 k h0 h1⟩
theorem Rest2.trans {i : Nat} {rs rs' rs'' : List (Value × List Int)} (h : Rest2 i rs rs') (h' : Rest2 i rs' rs'') : Rest2 i rs rs'' := ⟨h'.1.trans h.1, fun k a b => (h'.2 k a b).trans (h.2 k a b)⟩
/-- But for the loops' rows all that was there is as it was. -/
def KeptL (ov fv : Value) (w w' : World) : Prop := w.heap.size ≤ w'.heap.size ∧ ∀ k, k < w.heap.size → ov.ownBlock ≠ some k → fv.ownBlock ≠ some k → w'.heap[k]? = w.heap[k]?
theorem KeptL.refl (ov fv : Value) (w : World) : KeptL ov fv w w := ⟨Nat.le_refl _, fun _ _ _ _ => rfl⟩
theorem KeptL.put {ov fv : Value} {w w' : World} (h : KeptL ov fv w w') {g : Nat} (hg : ov.ownBlock = some g ∨ fv.ownBlock = some g) (j : Nat) (u : Value) : KeptL ov fv w (w'.setCell ⟨g, j, none⟩ u) :=
  ⟨by rw [World.size_setCell]; exact h.1, fun k hk a b => (Below.heap_setCell _ _ _ _ (fun e => by
    have e' : k = g := e
    subst e'
    rcases hg with hg | hg
    · exact a hg
    · exact b hg)).trans (h.2 k hk a b)⟩
/-- The way up ends within so many steps. -/
def reach : Nat → List Int → Int → Bool
  | 0, far, b => decide (gi far b = b)
  | k + 1, far, b => if gi far b = b then true else
    let far1 := far.set b.toNat (gi far (gi far b))
    reach k far1 (gi far1 b)
structure Lo.ok (l : Lo) (n : Nat) : Prop where
  ol : l.outer.length = n
  fl : l.far.length = n
  fin : ∀ x ∈ l.far, 0 ≤ x ∧ x < (n : Int)
  oin : ∀ x ∈ l.outer, x = -1 ∨ (0 ≤ x ∧ x < (n : Int))
theorem farthest_ok {n : Nat} : ∀ (k : Nat) (far : List Int) (b : Nat), far.length = n → (∀ x ∈ far, 0 ≤ x ∧ x < (n : Int)) → b < n → ((Lo.farthest k far b).2.length = n ∧ (∀ x ∈ (Lo.farthest k far b).2, 0 ≤ x ∧ x < (n : Int))) ∧ 0 ≤ (Lo.farthest k far b).1 ∧ (Lo.farthest k far b).1 < (n : Int)
  | 0, far, b, hl, hf, hb => ⟨⟨hl, hf⟩, by show 0 ≤ (b : Int) ∧ (b : Int) < n; omega⟩
  | k + 1, far, b, hl, hf, hb => by
    unfold Lo.farthest
    split
    · exact ⟨⟨hl, hf⟩, by show 0 ≤ (b : Int) ∧ (b : Int) < n; omega⟩
    · have h1 := hf _ (gi_mem (v := b) (by omega))
      obtain ⟨c, hc⟩ : ∃ c : Nat, gi far b = c := ⟨(gi far b).toNat, by omega⟩
      have h2 := hf _ (gi_mem (v := c) (by omega))
      obtain ⟨d, hd⟩ : ∃ d : Nat, gi far c = d := ⟨(gi far c).toNat, by omega⟩
      dsimp only
      rw [hc, hd, Int.toNat_natCast]
      have hg : gi (far.set b (d : Int)) b = d := by rw [gi_set (by omega) _ _ (by omega), if_pos rfl]
      rw [hg]
      exact farthest_ok k _ d (by rw [List.length_set]; exact hl) (mem_set hf b (by omega)) (by omega)
set_option maxHeartbeats 8000000 in
set_option maxRecDepth 100000 in
theorem farthest_any {B : Nat} {w : World} {P G n : Nat} {tv uv ov : Value} {fg fc : Nat} {l : Lo} {rs : List (Value × List Int)} {i : Nat} (h : LoAt B w P G tv uv ov (.slice (some ⟨fg, 0, none⟩) n fc) l rs i) (hok : l.ok n) (hn : n ≤ 1000000) (b : Nat) (hb : b < n) (K : Nat) (hre : reach K l.far b = true) :
    Calls Try.prog 26 #[.pointer (some ⟨P, 0, none⟩), .int .i64 b] w fun e w' => e = .returned (.int .i64 (Lo.farthest K l.far b).1) ∧ Below B w w' ∧ KeptL ov (.slice (some ⟨fg, 0, none⟩) n fc) w w' ∧ ∃ rs', LoAt B w' P G tv uv ov (.slice (some ⟨fg, 0, none⟩) n fc) ⟨l.outer, (Lo.farthest K l.far b).2⟩ rs' i ∧ Rest2 i rs rs' := by
  obtain ⟨res, hres⟩ : ∃ r, r = Lo.farthest K l.far b := ⟨_, rfl⟩
  rw [← hres]
  have HL := Lib.hid h; have HOK := Lib.hid hok; have HRES := Lib.hid hres; have HRE := Lib.hid hre
  clear h hok hres hre
  go_enter Try.func26, Try.ntmps26
  go_wp2_with (fail)
  go_loopg [1] K (fun k bv wr => ∃ (c : Nat) (far : List Int) (rs2 : List (Value × List Int)), bv = .int .i64 c ∧ c < n ∧ far.length = n ∧ (∀ x ∈ far, 0 ≤ x ∧ x < (n : Int)) ∧ reach k far c = true ∧ Lo.farthest k far c = res ∧ Below B w wr ∧ KeptL ov (.slice (some ⟨fg, 0, none⟩) n fc) w wr ∧ LoAt B wr P G tv uv ov (.slice (some ⟨fg, 0, none⟩) n fc) ⟨l.outer, far⟩ rs2 i ∧ Rest2 i rs rs2)
  case atStart => exact ⟨b, l.far, rs, rfl, hb, HOK.out.fl, HOK.out.fin, HRE.out, HRES.out.symm, Below.refl _ _, KeptL.refl _ _ _, HL.out, Rest2.refl _ _⟩
  case round =>
    obtain ⟨c, far, rs2, rfl, hc, hfl, hfi, hre, hfa, hbr, hkr, hlr, hrr⟩ := hrel
    have hci : (c : Int) < (n : Int) := by omega
    have h1 := hfi _ (gi_mem (v := c) (by omega))
    obtain ⟨d, hd⟩ : ∃ d : Nat, gi far c = d := ⟨(gi far c).toNat, by omega⟩
    have hdn : d < n := by omega
    have hdi : (d : Int) < (n : Int) := by omega
    have hfr := hlr.bag.row _ _ _ hlr.far
    obtain ⟨k1, k2, k3, k4⟩ := own_at hfr (gi_get (l := far) (v := c) (by omega))
    rw [hd] at k1
    have hbx := hlr.box
    have b4 := cell_ok hbx 4
    have hPl := lt_heap hbx
    have b4' : wr.cell? ⟨P, 4, none⟩ = some (.slice (some ⟨fg, 0, none⟩) n fc) := b4
    by_cases hcd : d = c
    · have HE := Lib.hid (show res = ((c : Int), far) from by
        rw [← hfa]
        cases gk with
        | zero => rfl
        | succ k => unfold Lo.farthest; rw [hd, if_pos (by rw [hcd])])
      have qe : ((d : Int) == (c : Int)) = true := by simp; omega
      have HBR := Lib.hid hbr; have HKR := Lib.hid hkr; have HLR := Lib.hid hlr; have HRR := Lib.hid hrr
      subst hcd
      clear hre hfa hbr hkr hlr hrr hfr hbx b4 h1 hfi hd
      go_wp2_with (fail)
      go_ret
      rw [HE.out]
      exact ⟨rfl, HBR.out, HKR.out, rs2, HLR.out, HRR.out⟩
    · have hne : ¬ ((d : Int) = (c : Int)) := by omega
      obtain ⟨k, hk⟩ : ∃ k, gk = k + 1 := by
        cases gk with
        | zero => unfold reach at hre; rw [hd] at hre; exact absurd (of_decide_eq_true hre) hne
        | succ k => exact ⟨k, rfl⟩
      subst hk
      have h2 := hfi _ (gi_mem (v := d) (by omega))
      obtain ⟨e, he⟩ : ∃ e : Nat, gi far d = e := ⟨(gi far d).toNat, by omega⟩
      have hen : e < n := by omega
      have m2 := (own_at hfr (gi_get (l := far) (v := d) (by omega))).1
      rw [he] at m2
      have hg : gi (far.set c (e : Int)) c = e := by rw [gi_set (by omega) _ _ (by omega), if_pos rfl]
      have HRE2 := Lib.hid (show reach k (far.set c (e : Int)) e = true from by
        unfold reach at hre
        rw [hd, if_neg hne] at hre
        dsimp only at hre
        rw [he, Int.toNat_natCast, hg] at hre
        exact hre)
      have HFA2 := Lib.hid (show Lo.farthest k (far.set c (e : Int)) e = res from by
        unfold Lo.farthest at hfa
        rw [hd, if_neg hne] at hfa
        dsimp only at hfa
        rw [he, Int.toNat_natCast, hg] at hfa
        exact hfa)
      have HFI2 := Lib.hid (mem_set hfi c (y := (e : Int)) ⟨by omega, by omega⟩)
      have qe : ((d : Int) == (c : Int)) = false := by simp; omega
      have HBR := Lib.hid hbr; have HKR := Lib.hid hkr; have HLR := Lib.hid hlr; have HRR := Lib.hid hrr; have HG := Lib.hid hg; have HK3 := Lib.hid k3
      clear hre hfa hbr hkr hlr hrr hfr hbx b4 h1 hfi h2 hd he hg k3
      go_upto_region 2 with (fail)
      go_still_tail 19, (by kernel_rfl)
      change wpList _ _ _ _ _ wr.drew
      have HL2 := Lib.hid (HLR.out.below (w' := wr.drew) ⟨rfl, rfl, rfl, Nat.le_refl _, fun _ _ => rfl⟩)
      have HB2 := Lib.hid (show Below B w wr.drew from ⟨HBR.out.os, HBR.out.tape, HBR.out.output, HBR.out.size, HBR.out.block⟩)
      have HK2 := Lib.hid (show KeptL ov (.slice (some ⟨fg, 0, none⟩) n fc) w wr.drew from HKR.out)
      clear k1 k2 k4 m2 b4' hPl HBR HKR HLR qe
      generalize wr.drew = w3 at *
      obtain ⟨k1, k2, k3, k4⟩ := own_at (HL2.out.bag.row _ _ _ HL2.out.far) (gi_get (l := far) (v := c) (by omega))
      go_upto_region 3 with (fail)
      have HL3 := Lib.hid (HL2.out.putfar hfl hc (e : Int))
      have HB3 := Lib.hid (below_put HB2.out HK3.out c (.int .i64 e))
      have HKP := Lib.hid (HK2.out.put (g := fg) (.inr rfl) c (.int .i64 e))
      clear k1 k2 k3 k4 HL2 HB2 HK2
      generalize w3.setCell ⟨fg, c, none⟩ (.int .i64 e) = w4 at *
      have k1 := (own_at (HL3.out.bag.row _ _ _ HL3.out.far) (gi_get (l := far.set c (e : Int)) (v := c) (by rw [List.length_set]; omega))).1
      rw [HG.out] at k1
      have hbx := HL3.out.box
      have b4 : w4.cell? ⟨P, 4, none⟩ = some (.slice (some ⟨fg, 0, none⟩) n fc) := cell_ok hbx 4
      have hPl := lt_heap hbx
      clear hbx
      go_wp2_with (fail)
      go_roundg k
      case measure => omega
      case rel => exact ⟨e, far.set c (e : Int), _, rfl, hen, by rw [List.length_set]; exact hfl, HFI2.out, HRE2.out, HFA2.out, HB3.out, HKP.out, HL3.out, HRR.out.set (.inr rfl) _⟩
end Go.Proofs.Ytipongpgmbhpkaa
