/-
  dom: the walk's way to a new place.
-/
import Derived.Test.YtipongpgmbhpkaaDomB
namespace Go.Proofs.Ytipongpgmbhpkaa
open Go.ChangeShapes Go.WideShapes Go.ChangeAt Go.RowKit
open Go.Proofs.Ytipongpgmbhpkaa.RegInv
set_option linter.unusedVariables false

theorem meet_cell {B : Nat} {w : World} {W ng ncap t : Nat} {xf : Int} {pv iv : Value} {hs : List Value} {s : Wk} {ext : List (Value × List Int)} (h : WalkAt B w W (.slice (some ⟨ng, 0, none⟩) s.num.length ncap) pv iv hs (s.meet t xf) ext) (ht : t < s.num.length) : w.cell? ⟨ng, t, none⟩ = some (.int .i64 (s.par.length : Int)) := by
  have hn2 := h.bag.row 0 _ _ rfl
  rw [show (s.meet t xf).num.length = s.num.length from List.length_set ..] at hn2
  exact own_cell hn2 (by rw [List.getElem?_map]; show Option.map iV ((s.num.set t (s.par.length : Int))[t]?) = _; rw [List.getElem?_set_self ht]; rfl)
set_option maxHeartbeats 4000000 in
set_option maxRecDepth 100000 in
theorem goes_new {B : Nat} {w : World} {W : Nat} {nv pv iv0 : Value} {hs0 : List Value} {s : Wk} {ext : List (Value × List Int)} (h : WalkAt B w W nv pv iv0 hs0 s ext) (hok : s.ok) (f t : Nat) (xf xg : Int) (hf : s.num[f]? = some xf) (ht : s.num[t]? = some (-1)) (hg0 : (s.num.set t (s.par.length : Int))[f]? = some xg) (hnum : s.num.length ≤ 1000000) (hpar : s.par.length ≤ 1000000) (hrow : ∀ r ∈ s.ins, r.length ≤ 1000000000) :
    Calls Try.prog 28 #[.pointer (some ⟨W, 0, none⟩), .int .i64 f, .int .i64 t] w (GoesPost B W nv ((s.meet t xf).way s.par.length xg) ext true w) := by
  obtain ⟨i0, hi, hz0⟩ := Option.map_eq_some_iff.1 info3
  obtain ⟨h1, h2, h3⟩ : i0.zero = some (.int .i64 0) ∧ i0.size = 1 ∧ i0.bytes = 8 := by simpa using hz0
  have HI := Lib.hid hi; have HZ0 := Lib.hid h1; have HZ1 := Lib.hid h2; have HZ2 := Lib.hid h3
  clear hi h1 h2 h3 hz0
  have hfl : f < s.num.length := (List.getElem?_eq_some_iff.1 hf).1
  have htl : t < s.num.length := (List.getElem?_eq_some_iff.1 ht).1
  have hn := h.bag.row 0 nv s.num rfl
  obtain ⟨ng, ncap, rfl, hng, hngl0, hncap⟩ : ∃ g cap, nv = .slice (some ⟨g, 0, none⟩) s.num.length cap ∧ B ≤ g ∧ g < w.heap.size ∧ s.num.length ≤ cap := by
    rcases own_slice hn with ⟨_, h0⟩ | h0
    · omega
    · exact h0
  obtain ⟨⟨c0, c1, c2⟩, hfz, hWl⟩ := wbox h.box
  have ct : w.cell? ⟨ng, t, none⟩ = some (.int .i64 (-1)) := own_cell hn (by rw [List.getElem?_map, ht]; rfl)
  have cf : w.cell? ⟨ng, f, none⟩ = some (.int .i64 xf) := own_cell hn (by rw [List.getElem?_map, hf]; rfl)
  have hfi : (f : Int) < (s.num.length : Int) := by omega
  have hti : (t : Int) < (s.num.length : Int) := by omega
  have HW0 := Lib.hid h
  have HHR := Lib.hid hrow
  have HOK := Lib.hid hok
  have HG0 := Lib.hid hg0
  have hins : s.ins.length ≤ 1000000 := by rw [hok.2]; exact hpar
  clear h hn hfz hok hrow hf ht c1 c2 hg0
  go_enter Try.func28, Try.ntmps28
  go_wp2_with (go_at_call 27; refine (meet_any HW0.out t htl xf hpar hins hnum).mono ?_; rintro e w2 ⟨rfl, hb2, pv2, iv, hw2⟩; have k0 := (wbox hw2.box).1.1; have k1 := meet_cell hw2 htl)
  have hrow : ∀ r ∈ (s.meet t xf).ins, r.length ≤ 1000000000 := by
    intro r hr
    rcases List.mem_append.1 hr with hr | hr
    · exact HHR.out r hr
    · obtain rfl := List.mem_singleton.1 hr; simp
  have hinl : (s.meet t xf).ins.length = s.ins.length + 1 := by unfold Wk.meet; simp
  have hvl : s.par.length < (s.meet t xf).ins.length := by rw [hinl, HOK.out.2]; omega
  have hnl : (s.meet t xf).num.length = s.num.length := List.length_set ..
  have hn2 := hw2.bag.row 0 _ _ rfl
  rw [hnl] at hn2
  have hngl : ng < w2.heap.size := (hn2.lt ng rfl).2
  have hBw : B ≤ w2.heap.size := by omega
  clear c0 ct cf hWl hngl0 k0 k1
  obtain ⟨⟨c0, c1, c2⟩, hfz, hWl⟩ := wbox hw2.box
  have ct : w2.cell? ⟨ng, t, none⟩ = some (.int .i64 (s.par.length : Int)) := own_cell hn2 (by rw [List.getElem?_map]; show Option.map iV ((s.num.set t (s.par.length : Int))[t]?) = _; rw [List.getElem?_set_self htl]; rfl)
  have cf : w2.cell? ⟨ng, f, none⟩ = some (.int .i64 xg) := own_cell hn2 (by rw [List.getElem?_map]; show Option.map iV ((s.num.set t (s.par.length : Int))[f]?) = _; rw [HG0.out]; rfl)
  have HB1 := Lib.hid hb2
  generalize hVV : s.par.length = v at *
  generalize hSM : s.meet t xf = sM at *
  generalize hHS : hs0 ++ [Value.slice none 0 0] = hs at *
  have hhl : hs.length = sM.ins.length := hw2.len
  obtain ⟨gi, icap, hiv, hgi, hgil, hgic⟩ : ∃ g cap, iv = .slice (some ⟨g, 0, none⟩) hs.length cap ∧ B ≤ g ∧ g < w2.heap.size ∧ hs.length ≤ cap := by
    rcases own_slice hw2.hdr with ⟨_, h0⟩ | h0
    · omega
    · exact h0
  subst hiv
  obtain ⟨hv, hh⟩ : ∃ u, hs[v]? = some u := ⟨_, List.getElem?_eq_getElem (by omega)⟩
  obtain ⟨xs, hx⟩ : ∃ u, sM.ins[v]? = some u := ⟨_, List.getElem?_eq_getElem hvl⟩
  have hrv := hw2.bag.row _ _ _ (hw2.inrow hh hx)
  obtain ⟨ha, hcap, hvv⟩ : ∃ a cap, hv = .slice a xs.length cap := by
    rcases own_slice hrv with ⟨h0, h1⟩ | ⟨g, cap, h0, _⟩
    · exact ⟨none, 0, by rw [h0, h1]⟩
    · exact ⟨_, _, h0⟩
  have ch : w2.cell? ⟨gi, v, none⟩ = some hv := own_cell hw2.hdr hh
  have hvi : (v : Int) < (hs.length : Int) := by omega
  have nW : some W ≠ hv.ownBlock := fun e => ne_type hrv hw2.box (by decide) e.symm rfl
  have nG : some gi ≠ hv.ownBlock := fun e => own_apart hw2.hdr hrv (by decide) (q := gi) rfl e.symm
  have nN : some ng ≠ hv.ownBlock := fun e => hw2.bag.apart 0 (2 + ext.length + v) _ _ rfl (hw2.inrow hh hx) (by omega) ng rfl e.symm
  have hfg : w2.frozen? ⟨gi, v, none⟩ = false := by
    obtain ⟨cs, hcs⟩ := own_type hw2.hdr (q := gi) rfl
    exact Lib.frozen_of_heap hcs v
  have hxl : xs.length ≤ 1000000000 := hrow _ (List.mem_of_getElem? hx)
  subst hvv
  have HW := Lib.hid hw2
  have HRV := Lib.hid hrv
  have HH := Lib.hid hh; have HX := Lib.hid hx
  have NW := Lib.hid nW; have NG := Lib.hid nG; have NN := Lib.hid nN
  have HHL := Lib.hid hhl; have HNL := Lib.hid hnl; have HIL := Lib.hid hinl
  clear hb2 hw2 hn2 hfz hrow c1 hrv hh hx nW nG nN hhl hnl hinl
  trace_state
  refine wp_region_by (by kernel_rfl) (gV W gi hs.length icap ng s.num.length ncap v f xs.length (.slice ha xs.length hcap) xg) (GI B w2 (.slice ha xs.length hcap) xs xg gi v) (0, 0, 0) (fun _ => rfl) (by kernel_rfl) ?h0 ?steps ?done
  case h0 => exact ⟨fun _ => grown_of_below _ ⟨rfl, rfl, rfl, Nat.le_refl _, fun _ _ => rfl⟩, fun _ => ⟨rfl, rfl, rfl, Nat.le_refl _, fun _ _ => rfl⟩, fun a => by simp at a, fun a => by simp at a, fun a => by simp at a⟩
  case done =>
    intro g w' hI
    obtain ⟨w3, hg, hown, hat, rfl⟩ := hI.fin rfl
    have hw5 := HW.out.appin rfl HH.out HX.out xg hown hg hat
    have hb5 := below_put (HB1.out.grown hg hBw (fun k hk => (HRV.out.lt k hk).1)) hgi v (.slice (some ⟨g.2.1, 0, none⟩) (xs.length + 1) g.2.2)
    have HW2 := Lib.hid hw5; have HB2 := Lib.hid hb5
    clear hw5 hb5 hI hg hown hat
    simp only [full, gV, Act.put, List.setIfInBounds_toArray, List.set_cons_zero, List.set_cons_succ]
    go_wp2_with (fail)
    go_ret
    exact ⟨rfl, HB2.out, _, _, _, HW2.out⟩
  case steps =>
    refine (Steps.cons (k' := 1) ?s0 rfl (Steps.cons (k' := 2) ?s1 rfl (Steps.cons (k' := 3) ?s2 rfl (Steps.cons (k' := 4) ?s3 rfl (Steps.cons (k' := 5) ?s4 rfl (Steps.cons (k' := 6) ?s5 rfl (Steps.cons (k' := 7) ?s6 rfl (Steps.cons (k' := 8) ?s7 rfl (Steps.cons (k' := 9) ?s8 rfl (Steps.cons (k' := 10) ?s9 rfl (Steps.cons (k' := 11) ?s10 rfl (Steps.cons (k' := 12) ?s11 rfl (Steps.cons (k' := 13) ?s12 rfl (Steps.cons (k' := 14) ?s13 rfl (Steps.cons (k' := 15) ?s14 rfl (Steps.cons (k' := 16) ?s15 rfl (Steps.cons (k' := 17) ?s16 rfl (Steps.cons (k' := 18) ?s17 rfl (Steps.cons (k' := 19) ?s18 rfl (Steps.cons (k' := 20) ?s19 rfl (Steps.cons (k' := 21) ?s20 rfl (Steps.cons (k' := 22) ?s21 rfl (Steps.cons (k' := 23) ?s22 rfl Steps.nil)))))))))))))))))))))))
    case s0 =>
      intro L g w' hL hd hcl hI K hK
      simp only [full, gV, Act.put, List.setIfInBounds_toArray, List.set_cons_zero, List.set_cons_succ] at hK ⊢
      have HL := Lib.hid hL; have HD := Lib.hid hd; have HC := Lib.hid hcl; have HJ := Lib.hid hI; have HK := Lib.hid hK
      clear hL hd hcl hI hK
      go_simp
      exact HK.out _ _ g rfl (fun _ _ => rfl) (HJ.out.skip (by decide))
    case s1 =>
      intro L g w' hL hd hcl hI K hK
      simp only [full, gV, Act.put, List.setIfInBounds_toArray, List.set_cons_zero, List.set_cons_succ] at hK ⊢
      have HL := Lib.hid hL; have HD := Lib.hid hd; have HC := Lib.hid hcl; have HJ := Lib.hid hI; have HK := Lib.hid hK
      clear hL hd hcl hI hK
      go_simp
      exact HK.out _ _ g rfl (fun _ _ => rfl) (HJ.out.skip (by decide))
    case s2 =>
      intro L g w' hL hd hcl hI K hK
      simp only [full, gV, Act.put, List.setIfInBounds_toArray, List.set_cons_zero, List.set_cons_succ] at hK ⊢
      have HL := Lib.hid hL; have HD := Lib.hid hd; have HC := Lib.hid hcl; have HJ := Lib.hid hI; have HK := Lib.hid hK
      clear hL hd hcl hI hK
      go_simp
      exact HK.out _ _ g rfl (fun _ _ => rfl) (HJ.out.skip (by decide))
    case s3 =>
      intro L g w' hL hd hcl hI K hK
      simp only [full, gV, Act.put, List.setIfInBounds_toArray, List.set_cons_zero, List.set_cons_succ] at hK ⊢
      have l21 : L 21 = false := hcl.not 21 3 (by kernel_rfl) hL
      have l22 : L 22 = false := hcl.not 22 21 (by kernel_rfl) l21
      have hg := hI.held l22
      have z := (World.cell?_of_block (hg.block W hWl NW.out)).trans c2
      clear hg
      have HL := Lib.hid hL; have HD := Lib.hid hd; have HC := Lib.hid hcl; have HJ := Lib.hid hI; have HK := Lib.hid hK
      clear hL hd hcl hI hK
      go_simp
      exact HK.out _ _ g rfl (fun _ _ => rfl) (HJ.out.skip (by decide))
    case s4 =>
      intro L g w' hL hd hcl hI K hK
      simp only [full, gV, Act.put, List.setIfInBounds_toArray, List.set_cons_zero, List.set_cons_succ] at hK ⊢
      have HL := Lib.hid hL; have HD := Lib.hid hd; have HC := Lib.hid hcl; have HJ := Lib.hid hI; have HK := Lib.hid hK
      clear hL hd hcl hI hK
      go_simp
      exact HK.out _ _ g rfl (fun _ _ => rfl) (HJ.out.skip (by decide))
    case s5 =>
      intro L g w' hL hd hcl hI K hK
      simp only [full, gV, Act.put, List.setIfInBounds_toArray, List.set_cons_zero, List.set_cons_succ] at hK ⊢
      have HL := Lib.hid hL; have HD := Lib.hid hd; have HC := Lib.hid hcl; have HJ := Lib.hid hI; have HK := Lib.hid hK
      clear hL hd hcl hI hK
      go_simp
      exact HK.out _ _ g rfl (fun _ _ => rfl) (HJ.out.skip (by decide))
    case s6 =>
      intro L g w' hL hd hcl hI K hK
      simp only [full, gV, Act.put, List.setIfInBounds_toArray, List.set_cons_zero, List.set_cons_succ] at hK ⊢
      have HL := Lib.hid hL; have HD := Lib.hid hd; have HC := Lib.hid hcl; have HJ := Lib.hid hI; have HK := Lib.hid hK
      clear hL hd hcl hI hK
      go_simp
      exact HK.out _ _ g rfl (fun _ _ => rfl) (HJ.out.skip (by decide))
    case s7 =>
      intro L g w' hL hd hcl hI K hK
      simp only [full, gV, Act.put, List.setIfInBounds_toArray, List.set_cons_zero, List.set_cons_succ] at hK ⊢
      have HL := Lib.hid hL; have HD := Lib.hid hd; have HC := Lib.hid hcl; have HJ := Lib.hid hI; have HK := Lib.hid hK
      clear hL hd hcl hI hK
      go_simp
      exact HK.out _ _ g rfl (fun _ _ => rfl) (HJ.out.skip (by decide))
    case s8 =>
      intro L g w' hL hd hcl hI K hK
      simp only [full, gV, Act.put, List.setIfInBounds_toArray, List.set_cons_zero, List.set_cons_succ] at hK ⊢
      have l10 : L 10 = false := hcl.not 10 8 (by kernel_rfl) hL
      have l11 : L 11 = false := hcl.not 11 10 (by kernel_rfl) l10
      have l20 : L 20 = false := hcl.not 20 11 (by kernel_rfl) l11
      have l22 : L 22 = false := hcl.not 22 20 (by kernel_rfl) l20
      have hg := hI.held l22
      have z := (World.cell?_of_block (hg.block W hWl NW.out)).trans c2
      clear hg
      have HL := Lib.hid hL; have HD := Lib.hid hd; have HC := Lib.hid hcl; have HJ := Lib.hid hI; have HK := Lib.hid hK
      clear hL hd hcl hI hK
      go_simp
      exact HK.out _ _ g rfl (fun _ _ => rfl) (HJ.out.skip (by decide))
    case s9 =>
      intro L g w' hL hd hcl hI K hK
      simp only [full, gV, Act.put, List.setIfInBounds_toArray, List.set_cons_zero, List.set_cons_succ] at hK ⊢
      have HL := Lib.hid hL; have HD := Lib.hid hd; have HC := Lib.hid hcl; have HJ := Lib.hid hI; have HK := Lib.hid hK
      clear hL hd hcl hI hK
      go_simp
      exact HK.out _ _ g rfl (fun _ _ => rfl) (HJ.out.skip (by decide))
    case s10 =>
      intro L g w' hL hd hcl hI K hK
      simp only [full, gV, Act.put, List.setIfInBounds_toArray, List.set_cons_zero, List.set_cons_succ] at hK ⊢
      have HL := Lib.hid hL; have HD := Lib.hid hd; have HC := Lib.hid hcl; have HJ := Lib.hid hI; have HK := Lib.hid hK
      clear hL hd hcl hI hK
      go_simp
      exact HK.out _ _ g rfl (fun _ _ => rfl) (HJ.out.skip (by decide))
    case s11 =>
      intro L g w' hL hd hcl hI K hK
      simp only [full, gV, Act.put, List.setIfInBounds_toArray, List.set_cons_zero, List.set_cons_succ] at hK ⊢
      have l20 : L 20 = false := hcl.not 20 11 (by kernel_rfl) hL
      have l22 : L 22 = false := hcl.not 22 20 (by kernel_rfl) l20
      have hg := hI.held l22
      have z := (World.cell?_of_block (hg.block gi hgil NG.out)).trans ch
      clear hg
      have HL := Lib.hid hL; have HD := Lib.hid hd; have HC := Lib.hid hcl; have HJ := Lib.hid hI; have HK := Lib.hid hK
      clear hL hd hcl hI hK
      go_simp
      exact HK.out _ _ g rfl (fun _ _ => rfl) (HJ.out.skip (by decide))
    case s12 =>
      intro L g w' hL hd hcl hI K hK
      simp only [full, gV, Act.put, List.setIfInBounds_toArray, List.set_cons_zero, List.set_cons_succ] at hK ⊢
      have HL := Lib.hid hL; have HD := Lib.hid hd; have HC := Lib.hid hcl; have HJ := Lib.hid hI; have HK := Lib.hid hK
      clear hL hd hcl hI hK
      go_simp
      exact HK.out _ _ g rfl (fun _ _ => rfl) (HJ.out.skip (by decide))
    case s13 =>
      intro L g w' hL hd hcl hI K hK
      simp only [full, gV, Act.put, List.setIfInBounds_toArray, List.set_cons_zero, List.set_cons_succ] at hK ⊢
      have HL := Lib.hid hL; have HD := Lib.hid hd; have HC := Lib.hid hcl; have HJ := Lib.hid hI; have HK := Lib.hid hK
      clear hL hd hcl hI hK
      go_simp
      exact HK.out _ _ g rfl (fun _ _ => rfl) (HJ.out.skip (by decide))
    case s14 =>
      intro L g w' hL hd hcl hI K hK
      simp only [full, gV, Act.put, List.setIfInBounds_toArray, List.set_cons_zero, List.set_cons_succ] at hK ⊢
      have HL := Lib.hid hL; have HD := Lib.hid hd; have HC := Lib.hid hcl; have HJ := Lib.hid hI; have HK := Lib.hid hK
      clear hL hd hcl hI hK
      go_simp
      exact HK.out _ _ g rfl (fun _ _ => rfl) (HJ.out.skip (by decide))
    case s15 =>
      intro L g w' hL hd hcl hI K hK
      simp only [full, gV, Act.put, List.setIfInBounds_toArray, List.set_cons_zero, List.set_cons_succ] at hK ⊢
      have l17 : L 17 = false := hcl.not 17 15 (by kernel_rfl) hL
      have l18 : L 18 = false := hcl.not 18 17 (by kernel_rfl) l17
      have l19 : L 19 = false := hcl.not 19 18 (by kernel_rfl) l18
      have l20 : L 20 = false := hcl.not 20 19 (by kernel_rfl) l19
      have l22 : L 22 = false := hcl.not 22 20 (by kernel_rfl) l20
      have hg := hI.held l22
      have z := (World.cell?_of_block (hg.block W hWl NW.out)).trans c0
      clear hg
      have HL := Lib.hid hL; have HD := Lib.hid hd; have HC := Lib.hid hcl; have HJ := Lib.hid hI; have HK := Lib.hid hK
      clear hL hd hcl hI hK
      go_simp
      exact HK.out _ _ g rfl (fun _ _ => rfl) (HJ.out.skip (by decide))
    case s16 =>
      intro L g w' hL hd hcl hI K hK
      simp only [full, gV, Act.put, List.setIfInBounds_toArray, List.set_cons_zero, List.set_cons_succ] at hK ⊢
      have HL := Lib.hid hL; have HD := Lib.hid hd; have HC := Lib.hid hcl; have HJ := Lib.hid hI; have HK := Lib.hid hK
      clear hL hd hcl hI hK
      go_simp
      exact HK.out _ _ g rfl (fun _ _ => rfl) (HJ.out.skip (by decide))
    case s17 =>
      intro L g w' hL hd hcl hI K hK
      simp only [full, gV, Act.put, List.setIfInBounds_toArray, List.set_cons_zero, List.set_cons_succ] at hK ⊢
      have HL := Lib.hid hL; have HD := Lib.hid hd; have HC := Lib.hid hcl; have HJ := Lib.hid hI; have HK := Lib.hid hK
      clear hL hd hcl hI hK
      go_simp
      exact HK.out _ _ g rfl (fun _ _ => rfl) (HJ.out.skip (by decide))
    case s18 =>
      intro L g w' hL hd hcl hI K hK
      simp only [full, gV, Act.put, List.setIfInBounds_toArray, List.set_cons_zero, List.set_cons_succ] at hK ⊢
      have l19 : L 19 = false := hcl.not 19 18 (by kernel_rfl) hL
      have l20 : L 20 = false := hcl.not 20 19 (by kernel_rfl) l19
      have l22 : L 22 = false := hcl.not 22 20 (by kernel_rfl) l20
      have hg := hI.held l22
      have z := (World.cell?_of_block (hg.block ng hngl NN.out)).trans cf
      clear hg
      have HL := Lib.hid hL; have HD := Lib.hid hd; have HC := Lib.hid hcl; have HJ := Lib.hid hI; have HK := Lib.hid hK
      clear hL hd hcl hI hK
      go_simp
      exact HK.out _ _ g rfl (fun _ _ => rfl) (HJ.out.skip (by decide))
    case s19 =>
      intro L g w' hL hd hcl hI K hK
      simp only [full, gV, Act.put, List.setIfInBounds_toArray, List.set_cons_zero, List.set_cons_succ] at hK ⊢
      have l20 : L 20 = false := hcl.not 20 19 (by kernel_rfl) hL
      have l22 : L 22 = false := hcl.not 22 20 (by kernel_rfl) l20
      have HL := Lib.hid hL; have HD := Lib.hid hd; have HC := Lib.hid hcl; have HJ := Lib.hid hI; have HK := Lib.hid hK
      clear hL hd hcl hI hK
      go_simp
      exact HK.out _ _ (w'.heap.size, g.2.1, g.2.2) rfl (set_get 19 HL.out rfl) (HJ.out.build l20 l22)
    case s20 =>
      intro L g w' hL hd hcl hI K hK
      simp only [full, gV, Act.put, List.setIfInBounds_toArray, List.set_cons_zero, List.set_cons_succ] at hK ⊢
      have l22 : L 22 = false := hcl.not 22 20 (by kernel_rfl) hL
      have l19 : L 19 = true := dep_of hd 19 (by kernel_rfl)
      have HL := Lib.hid hL; have HD := Lib.hid hd; have HC := Lib.hid hcl; have HJ := Lib.hid hI; have HK := Lib.hid hK
      clear hL hd hcl hI hK
      rw [if_pos (by rfl)]
      refine wp_append_lies _ (.tmp 46) (.tmp 54) 35 ?eo B 3 i0 (.int .i64 0) 1 8 Try.underlying35 HI.out HZ0.out HZ1.out HZ2.out rfl (by decide) (.slice ha xs.length hcap) xs.length (xs.map iV) ?e1 ?hown ⟨g.1, 0, none⟩ 1 1 [.int .i64 xg] ?e2 rfl ?hnews (one_int _) (by decide) ?h63 ?hby ?hba w'.heap.size rfl ?_
      case eo => rfl
      case e1 => rfl
      case e2 => rfl
      case hown => exact own_keep HRV.out (fun q hq => (HJ.out.pre HL.out).block q (HRV.out.lt q hq).2)
      case hnews => exact World.news_of_block (cs := #[.int .i64 xg]) (HJ.out.made l19 HL.out).2
      case h63 => unfold maxLen; omega
      case hby => omega
      case hba => exact Nat.le_trans hBw (HJ.out.pre HL.out).size
      intro b2 cap2 w4 hown4 hgr4 hat4 hlt4
      simp only [Act.put, List.setIfInBounds_toArray, List.set_cons_zero, List.set_cons_succ]
      exact HK.out _ _ (g.1, b2, cap2) rfl (set_get 20 HL.out rfl) (HJ.out.append HL.out l22 hown4 hgr4 hat4)
    case s21 =>
      intro L g w' hL hd hcl hI K hK
      simp only [full, gV, Act.put, List.setIfInBounds_toArray, List.set_cons_zero, List.set_cons_succ] at hK ⊢
      have HL := Lib.hid hL; have HD := Lib.hid hd; have HC := Lib.hid hcl; have HJ := Lib.hid hI; have HK := Lib.hid hK
      clear hL hd hcl hI hK
      go_simp
      exact HK.out _ _ g rfl (fun _ _ => rfl) (HJ.out.skip (by decide))
    case s22 =>
      intro L g w' hL hd hcl hI K hK
      simp only [full, gV, Act.put, List.setIfInBounds_toArray, List.set_cons_zero, List.set_cons_succ] at hK ⊢
      have l20 : L 20 = true := dep_of hd 20 (by kernel_rfl)
      have hg := hI.held hL
      have z := (World.frozen?_of_block (hg.block gi hgil NG.out)).trans hfg
      have z2 := Nat.lt_of_lt_of_le hgil hg.size
      have z3 := (World.cell?_of_block (hg.block gi hgil NG.out)).trans ch
      clear hg
      have HL := Lib.hid hL; have HD := Lib.hid hd; have HC := Lib.hid hcl; have HJ := Lib.hid hI; have HK := Lib.hid hK
      clear hL hd hcl hI hK
      go_simp
      exact HK.out _ _ g rfl (fun _ _ => rfl) (HJ.out.store l20 HL.out)
end Go.Proofs.Ytipongpgmbhpkaa
