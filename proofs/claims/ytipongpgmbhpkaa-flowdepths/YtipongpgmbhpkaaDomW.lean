/-
  flow: Order.
-/
import Derived.Test.YtipongpgmbhpkaaDomV
namespace Go.Proofs.Ytipongpgmbhpkaa
open Go.ChangeShapes Go.WideShapes Go.ChangeAt Go.RowKit
open Go.Proofs.Ytipongpgmbhpkaa.RegInv
set_option linter.unusedVariables false

theorem infoBool : (Try.prog.info? 4).map (fun i => (i.zero, i.size, i.bytes)) = some (some (.bool false), 1, 1) := by kernel_rfl
structure OrdAt (B : Nat) (w : World) (mv gv pv lv : Value) (x : OS) : Prop where
  mrow : w.ownsRow B 4 1 mv x.met.length (x.met.map Value.bool)
  bag : Bag B w [(gv, x.gone), (pv, x.path), (lv, x.laid)]
theorem OrdAt.below {B : Nat} {w w' : World} {mv gv pv lv : Value} {x : OS} (h : OrdAt B w mv gv pv lv x) (hb : Below w.heap.size w w') : OrdAt B w' mv gv pv lv x :=
  ⟨own_keep h.mrow (fun q hq => hb.block q (h.mrow.lt q hq).2), h.bag.below hb⟩
theorem OrdAt.putgone {B : Nat} {w : World} {mv pv lv : Value} {x : OS} {g n cap : Nat} (h : OrdAt B w mv (.slice (some ⟨g, 0, none⟩) n cap) pv lv x) (hn : x.gone.length = n) {j : Nat} (hj : j < n) (y : Int) : OrdAt B (w.setCell ⟨g, j, none⟩ (.int .i64 y)) mv (.slice (some ⟨g, 0, none⟩) n cap) pv lv ⟨x.laid, x.met, x.gone.set j y, x.path⟩ := by
  refine ⟨own_keep h.mrow (fun q hq => Below.heap_setCell _ _ _ _ ?_), h.bag.put (i := 0) rfl hn hj y⟩
  rintro rfl
  exact own_apart h.mrow (h.bag.row 0 _ _ rfl) (by decide) hq rfl
theorem OrdAt.putmet {B : Nat} {w : World} {gv pv lv : Value} {x : OS} {g n cap : Nat} (h : OrdAt B w (.slice (some ⟨g, 0, none⟩) n cap) gv pv lv x) (hn : x.met.length = n) {j : Nat} (hj : j < n) (y : Bool) : OrdAt B (w.setCell ⟨g, j, none⟩ (.bool y)) (.slice (some ⟨g, 0, none⟩) n cap) gv pv lv ⟨x.laid, x.met.set j y, x.gone, x.path⟩ := by
  obtain ⟨cs, hcs⟩ := own_type h.mrow (q := g) rfl
  refine ⟨?_, h.bag.other hcs (by decide) j _⟩
  have hm := h.mrow
  rw [hn] at hm
  have := own_put hm hj (Value.bool y)
  dsimp only
  rw [List.length_set, hn, List.map_set]
  exact this
theorem OrdAt.take {B : Nat} {w : World} {mv gv lv : Value} {x : OS} {a : Option Addr} {n m cap : Nat} (h : OrdAt B w mv gv (.slice a n cap) lv x) (hn : x.path.length = n) (hm : m < n) : OrdAt B w mv gv (.slice a m cap) lv ⟨x.laid, x.met, x.gone, x.path.take m⟩ :=
  ⟨h.mrow, h.bag.take (i := 1) rfl hn hm⟩
theorem OrdAt.apppath {B : Nat} {w w' : World} {mv gv pv lv : Value} {x : OS} {n g' cap' : Nat} (h : OrdAt B w mv gv pv lv x) (hn : x.path.length = n) (y : Int) (hown : w'.ownsRow B 3 1 (.slice (some ⟨g', 0, none⟩) (n + 1) cap') (n + 1) (x.path.map iV ++ [.int .i64 y])) (hg : w.grownBy w' pv.ownBlock) (hat : pv.ownBlock = some g' ∨ w.heap.size ≤ g') : OrdAt B w' mv gv (.slice (some ⟨g', 0, none⟩) (n + 1) cap') lv ⟨x.laid, x.met, x.gone, x.path ++ [y]⟩ :=
  ⟨own_keep h.mrow (fun q hq => hg.block q (h.mrow.lt q hq).2 (fun e => own_apart h.mrow (h.bag.row 1 _ _ rfl) (by decide) hq e.symm)), h.bag.app (i := 1) rfl hn y hown hg hat⟩
theorem OrdAt.applaid {B : Nat} {w w' : World} {mv gv pv lv : Value} {x : OS} {n g' cap' : Nat} (h : OrdAt B w mv gv pv lv x) (hn : x.laid.length = n) (y : Int) (hown : w'.ownsRow B 3 1 (.slice (some ⟨g', 0, none⟩) (n + 1) cap') (n + 1) (x.laid.map iV ++ [.int .i64 y])) (hg : w.grownBy w' lv.ownBlock) (hat : lv.ownBlock = some g' ∨ w.heap.size ≤ g') : OrdAt B w' mv gv pv (.slice (some ⟨g', 0, none⟩) (n + 1) cap') ⟨x.laid ++ [y], x.met, x.gone, x.path⟩ :=
  ⟨own_keep h.mrow (fun q hq => hg.block q (h.mrow.lt q hq).2 (fun e => own_apart h.mrow (h.bag.row 2 _ _ rfl) (by decide) hq e.symm)), h.bag.app (i := 2) rfl hn y hown hg hat⟩
theorem bool_at {B : Nat} {w : World} {g n k cap j : Nat} {xs : List Bool} {x : Bool} (h : w.ownsRow B 4 1 (.slice (some ⟨g, 0, none⟩) n cap) k (xs.map Value.bool)) (hx : xs[j]? = some x) : w.cell? ⟨g, j, none⟩ = some (.bool x) ∧ w.frozen? ⟨g, j, none⟩ = false ∧ B ≤ g ∧ g < w.heap.size := by
  rcases own_slice h with ⟨h0, _⟩ | ⟨g', cap', h0, h1, h2, _⟩
  · cases h0
  · cases h0
    refine ⟨own_cell h (by rw [List.getElem?_map, hx]; rfl), ?_, h1, h2⟩
    obtain ⟨cs, hcs⟩ := own_type h (q := g) rfl
    exact Lib.frozen_of_heap hcs j
structure MI (n : Nat) (w1 : World) (L : Nat → Bool) (g : Nat × Nat) (w : World) : Prop where
  low : Below w1.heap.size w1 w
  m : L 2 = true → w1.heap.size ≤ g.1 ∧ w.heap[g.1]? = some (.cells (madeCells #[.bool false] n) 4 (0, 0))
  q : L 5 = true → w1.heap.size ≤ g.2 ∧ w.heap[g.2]? = some (.cells (madeCells #[.int .i64 0] n) 3 (0, 0))
theorem MI.skip {n : Nat} {w1 : World} {L : Nat → Bool} {g : Nat × Nat} {w : World} (h : MI n w1 L g w) {i : Nat} (hi : 2 ≠ i ∧ 5 ≠ i) : MI n w1 (setL L i) g w := by
  obtain ⟨h0, h1, h2⟩ := h
  refine ⟨h0, ?_, ?_⟩
  · rw [setL_ne hi.1]; exact h1
  · rw [setL_ne hi.2]; exact h2
theorem MI.m2 {n : Nat} {w1 : World} {L : Nat → Bool} {g : Nat × Nat} {w : World} (h : MI n w1 L g w) : MI n w1 (setL L 2) (w.heap.size, g.2) (w.alloc (.cells (madeCells #[.bool false] n) 4 (0, 0))) := by
  refine ⟨h.low.alloc h.low.size _, fun _ => ⟨h.low.size, alloc_at _ _ _ rfl⟩, fun a => ?_⟩
  rw [setL_ne (by decide)] at a; exact old_alloc (h.q a)
theorem MI.m5 {n : Nat} {w1 : World} {L : Nat → Bool} {g : Nat × Nat} {w : World} (h : MI n w1 L g w) : MI n w1 (setL L 5) (g.1, w.heap.size) (w.alloc (.cells (madeCells #[.int .i64 0] n) 3 (0, 0))) := by
  refine ⟨h.low.alloc h.low.size _, fun a => ?_, fun _ => ⟨h.low.size, alloc_at _ _ _ rfl⟩⟩
  rw [setL_ne (by decide)] at a; exact old_alloc (h.m a)
def mV2 (G n : Nat) (g : Nat × Nat) : List Value :=
  [.pointer (some ⟨G, 0, none⟩), .int .i64 n, .slice (some ⟨g.1, 0, none⟩) n n, .pointer (some ⟨G, 0, none⟩), .int .i64 n, .slice (some ⟨g.2, 0, none⟩) n n, .slice (some ⟨g.1, 0, none⟩) n n, .slice (some ⟨g.2, 0, none⟩) n n]
def OrderPost (l : List Int) (w : World) (e : Ending) (w' : World) : Prop := ∃ lv, e = .returned lv ∧ Below w.heap.size w w' ∧ w'.ownsRow w.heap.size 3 1 lv l.length (l.map iV)
set_option maxHeartbeats 16000000 in
set_option maxRecDepth 100000 in
theorem order_any {w : World} {B0 G : Nat} {ov iv : Value} {os js : List Value} {g : Gr} (hg : GrAt B0 w G ov iv os js g) (hne : g.outs ≠ []) (hin : Inside g.outs) (hn : g.outs.length ≤ 1000000) (he : edges g.outs ≤ 1000000) :
    Calls Try.prog 15 #[.pointer (some ⟨G, 0, none⟩)] w (OrderPost (orderL g.outs) w) := by
  obtain ⟨i0, hi, hz0⟩ := Option.map_eq_some_iff.1 info3
  obtain ⟨h1, h2, h3⟩ : i0.zero = some (.int .i64 0) ∧ i0.size = 1 ∧ i0.bytes = 8 := by simpa using hz0
  have HI := Lib.hid hi; have HZ0 := Lib.hid h1; have HZ1 := Lib.hid h2; have HZ2 := Lib.hid h3
  clear hi h1 h2 h3 hz0
  have hpos : 0 < g.outs.length := List.length_pos_iff.2 hne
  obtain ⟨outs, ho⟩ : ∃ o, o = g.outs := ⟨_, rfl⟩
  obtain ⟨n, hnn⟩ : ∃ n, n = outs.length := ⟨_, rfl⟩
  have HO := Lib.hid ho; have HN := Lib.hid hnn
  rw [← ho] at hne hin hn he hpos ⊢
  rw [← hnn] at hn hpos
  have hol : os.length = n := by rw [hg.lo, ← ho, hnn]
  obtain ⟨oa, oc, rfl⟩ := own_form hg.ho
  rw [hol] at hg
  have hho := hg.ho
  rw [hol] at hho
  obtain ⟨og, hog⟩ : ∃ og, oa = some ⟨og, 0, none⟩ := by
    rcases own_slice hho with ⟨_, h0⟩ | ⟨q, c, h0, _⟩
    · omega
    · simp only [Value.slice.injEq] at h0; exact ⟨q, h0.1⟩
  subst hog
  obtain ⟨⟨c0, _⟩, _, hGl⟩ := tbox hg.box
  have hogl := (hho.lt og rfl).2
  have HROWS := Lib.hid (show ∀ (i : Nat) (row : List Int), outs[i]? = some row → ∃ a c, w.cell? ⟨og, i, none⟩ = some (.slice a row.length c) ∧ (row ≠ [] → ∃ b, a = some ⟨b, 0, none⟩ ∧ b < w.heap.size ∧ ∀ (k : Nat) (x : Int), row[k]? = some x → w.cell? ⟨b, k, none⟩ = some (.int .i64 x)) from by
    intro i row hrow
    have hil : i < n := by rw [hnn]; exact (List.getElem?_eq_some_iff.1 hrow).1
    obtain ⟨h0, hh0⟩ : ∃ u, os[i]? = some u := ⟨_, List.getElem?_eq_getElem (by rw [hol]; exact hil)⟩
    have hr := hg.bag.row _ _ _ (hg.orow hh0 (by rw [← ho]; exact hrow))
    obtain ⟨a, c, rfl⟩ := own_form hr
    refine ⟨a, c, own_cell hho hh0, fun hne' => ?_⟩
    obtain ⟨b, hb, _⟩ := own_head hr (List.length_pos_iff.2 hne')
    subst hb
    exact ⟨b, rfl, (hr.lt b rfl).2, fun k x hx => (own_at hr hx).1⟩)
  have HBOX := Lib.hid hg.box; have HNE := Lib.hid hne; have HIN := Lib.hid hin
  clear hg hne hin ho hnn hol hho
  have hmk := run_make_row' (P := Try.prog) 35 3 (.int .i64 0) 8 Try.underlying35 info3 rfl .i64 .i64 n (by omega) (by omega)
  have hmb := run_make_row' (P := Try.prog) 33 4 (.bool false) 1 Try.underlying33 infoBool rfl .i64 .i64 n (by omega) (by omega)
  have HMK := Lib.hid hmk; have HMB := Lib.hid hmb
  clear hmk hmb
  have q2 : ¬ (n = 0) := by omega
  go_enter Try.func15, Try.ntmps15
  go_wp2_with (go_at_call 17; refine (len_any HBOX.out).mono ?_; rintro e w2 ⟨rfl, hw⟩; replace hw := hw.symm; subst hw)
  have qn : ((n : Int) == 0) = false := by simp; omega
  rw [qn]
  clear q2 qn
  refine wp_region_by (by kernel_rfl) (mV2 G n) (MI n w) (0, 0) (fun _ => rfl) (by kernel_rfl) ?h0 ?steps ?done
  case h0 => exact ⟨⟨rfl, rfl, rfl, Nat.le_refl _, fun _ _ => rfl⟩, fun a => by simp at a, fun a => by simp at a⟩
  case steps =>
    have hmk := HMK.out; have hmb := HMB.out
    refine (Steps.cons (k' := 1) ?s0 rfl (Steps.cons (k' := 2) ?s1 rfl (Steps.cons (k' := 3) ?s2 rfl (Steps.cons (k' := 4) ?s3 rfl (Steps.cons (k' := 5) ?s4 rfl (Steps.cons (k' := 6) ?s5 rfl (Steps.cons (k' := 7) ?s6 rfl (Steps.cons (k' := 8) ?s7 rfl Steps.nil))))))))
    case s0 =>
      intro L g w' hL hd hcl hI K hK
      simp only [full, mV2, Act.put, List.setIfInBounds_toArray, List.set_cons_zero, List.set_cons_succ] at hK ⊢
      have HL := Lib.hid hL; have HD := Lib.hid hd; have HC := Lib.hid hcl; have HJ := Lib.hid hI; have HK := Lib.hid hK
      clear hL hd hcl hI hK
      go_simp
      exact HK.out _ _ g rfl (fun _ _ => rfl) (HJ.out.skip (by decide))
    case s1 =>
      intro L g w' hL hd hcl hI K hK
      simp only [full, mV2, Act.put, List.setIfInBounds_toArray, List.set_cons_zero, List.set_cons_succ] at hK ⊢
      have HBX := Lib.hid ((hI.low.block G hGl).trans HBOX.out)
      have HL := Lib.hid hL; have HD := Lib.hid hd; have HC := Lib.hid hcl; have HJ := Lib.hid hI; have HK := Lib.hid hK
      clear hL hd hcl hI hK
      go_simp
      refine (len_any HBX.out).mono ?_
      rintro e w2 ⟨rfl, hw⟩
      replace hw := hw.symm
      subst hw
      exact HK.out _ _ g rfl (fun _ _ => by first | rfl | trivial) (HJ.out.skip (by decide))
    case s2 =>
      intro L g w' hL hd hcl hI K hK
      simp only [full, mV2, Act.put, List.setIfInBounds_toArray, List.set_cons_zero, List.set_cons_succ] at hK ⊢
      have l6 : L 6 = false := hcl.not 6 2 (by kernel_rfl) hL
      have HL := Lib.hid hL; have HD := Lib.hid hd; have HC := Lib.hid hcl; have HJ := Lib.hid hI; have HK := Lib.hid hK
      clear hL hd hcl hI hK
      go_simp
      exact HK.out _ _ (w'.heap.size, g.2) rfl (get_trans (set_get 2 HL.out rfl) (set_get 6 l6 rfl)) HJ.out.m2
    case s3 =>
      intro L g w' hL hd hcl hI K hK
      simp only [full, mV2, Act.put, List.setIfInBounds_toArray, List.set_cons_zero, List.set_cons_succ] at hK ⊢
      have HL := Lib.hid hL; have HD := Lib.hid hd; have HC := Lib.hid hcl; have HJ := Lib.hid hI; have HK := Lib.hid hK
      clear hL hd hcl hI hK
      go_simp
      exact HK.out _ _ g rfl (fun _ _ => rfl) (HJ.out.skip (by decide))
    case s4 =>
      intro L g w' hL hd hcl hI K hK
      simp only [full, mV2, Act.put, List.setIfInBounds_toArray, List.set_cons_zero, List.set_cons_succ] at hK ⊢
      have HBX := Lib.hid ((hI.low.block G hGl).trans HBOX.out)
      have HL := Lib.hid hL; have HD := Lib.hid hd; have HC := Lib.hid hcl; have HJ := Lib.hid hI; have HK := Lib.hid hK
      clear hL hd hcl hI hK
      go_simp
      refine (len_any HBX.out).mono ?_
      rintro e w2 ⟨rfl, hw⟩
      replace hw := hw.symm
      subst hw
      exact HK.out _ _ g rfl (fun _ _ => by first | rfl | trivial) (HJ.out.skip (by decide))
    case s5 =>
      intro L g w' hL hd hcl hI K hK
      simp only [full, mV2, Act.put, List.setIfInBounds_toArray, List.set_cons_zero, List.set_cons_succ] at hK ⊢
      have l7 : L 7 = false := hcl.not 7 5 (by kernel_rfl) hL
      have HL := Lib.hid hL; have HD := Lib.hid hd; have HC := Lib.hid hcl; have HJ := Lib.hid hI; have HK := Lib.hid hK
      clear hL hd hcl hI hK
      go_simp
      exact HK.out _ _ (g.1, w'.heap.size) rfl (get_trans (set_get 5 HL.out rfl) (set_get 7 l7 rfl)) HJ.out.m5
    case s6 =>
      intro L g w' hL hd hcl hI K hK
      simp only [full, mV2, Act.put, List.setIfInBounds_toArray, List.set_cons_zero, List.set_cons_succ] at hK ⊢
      have HL := Lib.hid hL; have HD := Lib.hid hd; have HC := Lib.hid hcl; have HJ := Lib.hid hI; have HK := Lib.hid hK
      clear hL hd hcl hI hK
      go_simp
      exact HK.out _ _ g rfl (fun _ _ => rfl) (HJ.out.skip (by decide))
    case s7 =>
      intro L g w' hL hd hcl hI K hK
      simp only [full, mV2, Act.put, List.setIfInBounds_toArray, List.set_cons_zero, List.set_cons_succ] at hK ⊢
      have HL := Lib.hid hL; have HD := Lib.hid hd; have HC := Lib.hid hcl; have HJ := Lib.hid hI; have HK := Lib.hid hK
      clear hL hd hcl hI hK
      go_simp
      exact HK.out _ _ g rfl (fun _ _ => rfl) (HJ.out.skip (by decide))
  case done =>
    intro g1 w1 hI
    obtain ⟨m1, m2⟩ := hI.m rfl
    obtain ⟨q1, q2⟩ := hI.q rfl
    have HB1 := Lib.hid hI.low
    obtain ⟨mg, gg⟩ := g1
    have hmx : n ≤ maxLen := by unfold maxLen; omega
    have hbr : w1.ownsRow w.heap.size 4 1 (.slice (some ⟨mg, 0, none⟩) n n) (List.replicate n false).length ((List.replicate n false).map Value.bool) := by
      rw [List.length_replicate]
      refine ⟨by simp, .inr ⟨mg, n, _, rfl, m1, m2, Nat.le_refl _, hmx, ?_, ?_⟩⟩
      · rw [madeCells_one]; simp
      · rw [madeCells_one]; simp
    have HX1 := Lib.hid (show OrdAt w.heap.size w1 (.slice (some ⟨mg, 0, none⟩) n n) (.slice (some ⟨gg, 0, none⟩) n n) (.slice none 0 0) (.slice none 0 0) ⟨[], List.replicate n false, List.replicate n 0, []⟩ from ⟨hbr, ((((Bag.nil _ _).more _ _ (own_made q2 q1 hmx) (fun i r hi => by simp at hi)).more (.slice none 0 0) [] (own_nil _ _ _) (fun i r hi q hq e => by cases e)).more (.slice none 0 0) [] (own_nil _ _ _) (fun i r hi q hq e => by cases e))⟩)
    clear hI m1 m2 q1 q2 hmx hbr
    simp only [full, mV2, Act.put, List.setIfInBounds_toArray, List.set_cons_zero, List.set_cons_succ]
    obtain ⟨x1, x2, x3, x4⟩ := bool_at HX1.out.mrow (j := 0) (x := false) (by rw [List.getElem?_replicate, if_pos hpos])
    have hp0 : (0 : Int) < (n : Int) := by omega
    go_upto_region 6 with (fail)
    have HX2 := Lib.hid (HX1.out.putmet (by simp) hpos true)
    have HB2 := Lib.hid (below_put HB1.out x3 0 (.bool true))
    clear x1 x2 x3 x4 hp0 HX1 HB1
    generalize w1.setCell ⟨mg, 0, none⟩ (.bool true) = w2 at *
    obtain ⟨K0, hK0⟩ : ∃ k, k = 2 * edges outs + 2 * n := ⟨_, rfl⟩
    obtain ⟨fin, hfin⟩ : ∃ s, s = ((OS.first n).run outs (2 * edges outs + 2 * n)).laid := ⟨_, rfl⟩
    have HK0 := Lib.hid hK0; have HFIN := Lib.hid hfin
    clear hK0 hfin
    go_upto_region 7 with (fail)
    have HX3 := Lib.hid (show OrdAt w.heap.size (w2.alloc (.cells #[.int .i64 0] 3 (0, 0))) (.slice (some ⟨mg, 0, none⟩) n n) (.slice (some ⟨gg, 0, none⟩) n n) (.slice (some ⟨w2.heap.size, 0, none⟩) 1 1) (.slice none 0 0) (OS.first n) from by
      have h1 := HX2.out.below (w' := w2.alloc (.cells #[.int .i64 0] 3 (0, 0))) ((Below.refl _ _).alloc (Nat.le_refl _) _)
      refine ⟨h1.mrow, ?_⟩
      have hb := (h1.bag.sub (rs' := [(.slice (some ⟨gg, 0, none⟩) n n, List.replicate n 0)]) (fun i => i) (fun i j _ _ hne => hne) (fun i r hi => by
        rcases i with _ | i
        · exact hi
        · simp at hi)).more (.slice (some ⟨w2.heap.size, 0, none⟩) 1 1) [0] (own_one (alloc_at _ _ _ rfl) HB2.out.size) (fun i r hi q hq e => by
          rcases i with _ | i
          · have e1 : w2.heap.size = q := Option.some.inj e
            have e2 := (HX2.out.bag.lt (i := 0) rfl (q := q) (by simp at hi; subst hi; exact hq)).2
            omega
          · simp at hi)
      exact hb.more (.slice none 0 0) [] (own_nil _ _ _) (fun i r hi q hq e => by cases e))
    have HB3 := Lib.hid (HB2.out.alloc HB2.out.size (.cells #[.int .i64 0] 3 (0, 0)))
    obtain ⟨pg0, hpg0⟩ : ∃ p, p = w2.heap.size := ⟨_, rfl⟩
    change Code.wp _ _ _ _ (w2.alloc (.cells #[.int .i64 0] 3 (0, 0)))
    rw [← hpg0] at HX3 ⊢
    clear HX2 HB2 hpg0
    generalize w2.alloc (.cells #[.int .i64 0] 3 (0, 0)) = w3 at *
    go_loopg [3, 6] K0 (fun k lv pv wx => ∃ (x : OS) (pa la : Option Addr) (pc lc m l : Nat), lv = .slice la l lc ∧ pv = .slice pa m pc ∧ x.path.length = m ∧ x.laid.length = l ∧ l + k ≤ K0 ∧ x.ok outs ∧ x.left outs ≤ k ∧ (x.run outs k).laid = fin ∧ Below w.heap.size w wx ∧ OrdAt w.heap.size wx (.slice (some ⟨mg, 0, none⟩) n n) (.slice (some ⟨gg, 0, none⟩) n n) (.slice pa m pc) (.slice la l lc) x)
    case atStart =>
      have h1 := OS.ok.first HNE.out
      rw [← HN.out] at h1
      exact ⟨OS.first n, some ⟨pg0, 0, none⟩, none, 1, 0, 1, 0, rfl, rfl, rfl, rfl, by omega, h1.1, by rw [h1.2, HK0.out]; omega, by rw [HK0.out, HFIN.out], HB3.out, HX3.out⟩
    case round =>
      obtain ⟨x, pa, la, pc, lc, m, l, rfl, rfl, hml, hll, hlk, hok, hlf, hrun, hbx, hox⟩ := hrel
      have HOX := Lib.hid hox; have HBX := Lib.hid hbx; have HOK := Lib.hid hok; have HRUN := Lib.hid hrun; have HML := Lib.hid hml; have HLL := Lib.hid hll; have HLF := Lib.hid hlf; have HLK := Lib.hid hlk
      clear hml hll hlk hok hlf hrun hbx hox
      by_cases hm0 : m = 0
      · subst hm0
        have HE := Lib.hid (show orderL outs = x.laid.reverse from by
          have hp : x.path = [] := List.length_eq_zero_iff.1 HML.out
          have h1 := HRUN.out
          rw [OS.run_nil hp] at h1
          rw [orderL_eq HNE.out, ← HN.out, ← HFIN.out, h1])
        have HLEN := Lib.hid (show (orderL outs).length = l from by rw [HE.out, List.length_reverse]; exact HLL.out)
        have hlr := HOX.out.bag.row 2 _ _ rfl
        rw [HLL.out] at hlr
        rcases own_slice hlr with ⟨h0, hl0⟩ | ⟨q, c, h0, _⟩
        · have hl' : l = 0 := hl0
          subst hl'
          have hla : la = none ∧ lc = 0 := by simp only [Value.slice.injEq] at h0; exact ⟨h0.1, h0.2.2⟩
          obtain ⟨rfl, rfl⟩ := hla
          have HREV := Lib.hid (Try.slices_Reverse_int_empty none 0 wr)
          clear hlr hl0 h0
          go_wp2_with (go_at_call 22; refine HREV.out.mono ?_; rintro e w9 ⟨rfl, hw⟩; replace hw := hw.symm; subst hw)
          go_ret
          refine ⟨_, rfl, HBX.out, ?_⟩
          rw [HLEN.out, List.length_eq_zero_iff.1 HLEN.out]
          exact own_nil _ _ _
        · have hla : la = some ⟨q, 0, none⟩ := by simp only [Value.slice.injEq] at h0; exact h0.1
          subst hla
          have HREV := Lib.hid (reverse_any hlr)
          clear hlr h0
          go_wp2_with (go_at_call 22; refine HREV.out.mono ?_; rintro e w9 ⟨rfl, hb9, ho9⟩)
          go_ret
          refine ⟨_, rfl, HBX.out.trans hb9, ?_⟩
          rw [HLEN.out, HE.out]
          exact ho9
      · have hL1 : (0 : Int) < (m : Int) := by omega
        obtain ⟨q, hq⟩ : ∃ q, m = q + 1 := ⟨m - 1, by omega⟩
        have HQ := Lib.hid hq
        have hp : x.path ≠ [] := fun e => by have := HML.out; rw [e] at this; exact hm0 this.symm
        have hpin := HOK.out.pin _ (last_mem hp)
        obtain ⟨f, hf⟩ : ∃ f : Nat, x.path.getLastD 0 = f := ⟨(x.path.getLastD 0).toNat, by omega⟩
        have hlast := last_get (HML.out.trans hq)
        rw [hf] at hpin hlast
        rw [← HN.out] at hpin
        have hfn : f < n := by omega
        have hfi : (f : Int) < (n : Int) := by omega
        obtain ⟨pg, hpa, hcap⟩ := own_head (HOX.out.bag.row 1 _ _ rfl) (by rw [HML.out]; omega)
        subst hpa
        obtain ⟨c5, _, _, _⟩ := own_at (HOX.out.bag.row 1 _ _ rfl) hlast
        have htk := gi_get (l := x.gone) (v := f) (by rw [HOK.out.gl, ← HN.out]; exact hfn)
        obtain ⟨row, hrow⟩ : ∃ r, outs[f]? = some r := ⟨_, List.getElem?_eq_getElem (by rw [← HN.out]; exact hfn)⟩
        have htin := HOK.out.tin f row hrow
        obtain ⟨k, hk⟩ : ∃ k : Int, gi x.gone f = k := ⟨_, rfl⟩
        rw [hk] at htk htin
        obtain ⟨c6, z6, y6, l6⟩ := own_at (HOX.out.bag.row 0 _ _ rfl) htk
        obtain ⟨ra, rc, hcr, hrrow⟩ := HROWS.out f row hrow
        have c7 := (HBX.out.cell (p := ⟨og, f, none⟩) hogl).trans hcr
        have g0 := (HBX.out.cell (p := ⟨G, 0, none⟩) hGl).trans c0
        have l7 := Nat.lt_of_lt_of_le hogl HBX.out.size
        have lG := Nat.lt_of_lt_of_le hGl HBX.out.size
        have hmc : (q : Int) ≤ (pc : Int) := by omega
        clear hcap
        have hm1 : (q : Int) < (m : Int) := by omega
        have hmb : m ≤ 4000004 := by
          have h1 := HLF.out
          have h2 := HML.out
          have h3 := HK0.out
          have h4 := HLK.out
          unfold OS.left at h1
          omega
        have HMBD := Lib.hid hmb
        have HWM := Lib.hid (show wrap64 ((m : Int) - 1) = (q : Int) from by rw [hq]; rw [show (((q + 1 : Nat) : Int) - 1) = (q : Int) by omega]; exact Go.IntWalk.wrap64_in (q : Int) (by omega))
        have HRR := Lib.hid hrrow
        have HF := Lib.hid hf; have HROW := Lib.hid hrow; have HK := Lib.hid hk; have HP := Lib.hid hp
        obtain ⟨g', hg'⟩ : ∃ g', gk = g' + 1 := ⟨gk - 1, by have h1 := HLF.out; have h2 := HML.out; unfold OS.left at h1; omega⟩
        subst hg'
        have HSO := Lib.hid (HOK.out.step HIN.out HP.out)
        have HRU := Lib.hid (show ((x.step outs).run outs g').laid = fin from by have := HRUN.out; rw [OS.run_step HP.out] at this; exact this)
        have HLE := Lib.hid (show (x.step outs).left outs ≤ g' from by have h1 := HLF.out; have h2 := HSO.out.2; omega)
        have HS1 := Lib.hid HSO.out.1
        clear hmb hq hm0 hf hrow hk hlast htk hp hpin hrrow hcr HRUN HLF HSO
        by_cases hkl : k = row.length
        · subst hkl
          clear htin
          have hE := OS.step_end HF.out HROW.out HK.out
          rw [hE, HML.out, HQ.out, Nat.add_sub_cancel] at HRU HLE HS1
          clear hE
          have hwm : wrap64 ((m : Int) - 1) = (q : Int) := HWM.out
          go_upto_region 9 with (fail)
          clear hwm
          go_quiet (fail)
          go_upto_region 10 with (fail)
          have HOX2 := Lib.hid (HOX.out.below (below_drewN (Below.refl wr.heap.size wr) nq))
          have HBX2 := Lib.hid (below_drewN HBX.out nq)
          clear c5 c6 z6 y6 l6 c7 g0 l7 lG HOX HBX
          generalize wr.drewN nq = w4 at *
          have hBw4 : w.heap.size ≤ w4.heap.size := HBX2.out.size
          go_upto_region 11 with (at_builtin; refine wpList_append_lies _ rfl _ _ 35 rfl w.heap.size 3 i0 (.int .i64 0) 1 8 Try.underlying35 HI.out HZ0.out HZ1.out HZ2.out rfl (by decide) _ l (x.laid.map iV) rfl ?hown ⟨w4.heap.size, 0, none⟩ 1 1 [.int .i64 f] rfl rfl ?hnews (one_int _) (by decide) ?h63 ?hby ?hba (w4.heap.size + 1) ?hH ?_)
          case hown =>
            have := (HOX2.out.below ((Below.refl _ _).alloc (Nat.le_refl _) (.cells #[.int .i64 f] 3 (0, 0)))).bag.row 2 _ _ rfl
            rw [HLL.out] at this
            exact this
          case hnews => exact World.news_of_block (cs := #[.int .i64 f]) (alloc_at _ _ _ rfl)
          case h63 => have := HLK.out; have := HK0.out; unfold maxLen; omega
          case hby => have := HLK.out; have := HK0.out; omega
          case hba => first | omega | (simp; omega)
          all_goals try (case hH => simp)
          intro b5 cap5 w5 hown5 hgr5 hat5 hlt5
          have hoa := HOX2.out.below ((Below.refl _ _).alloc (Nat.le_refl _) (.cells #[.int .i64 f] 3 (0, 0)))
          have hr5 := hoa.bag.row 2 _ _ rfl
          have ho5 := hoa.applaid HLL.out f hown5 hgr5 (by rcases hat5 with h | h; exact .inl h; exact .inr (by simp; omega))
          have HO5 := Lib.hid (ho5.take (n := m) HML.out (by have := HQ.out; omega : q < m))
          have HB5 := Lib.hid ((HBX2.out.alloc hBw4 _).grown hgr5 (by simp; omega) (fun k hk => (hr5.lt k hk).1))
          clear hoa hr5 ho5 hown5 hgr5 hat5 hlt5 HOX2 HBX2
          have hwm : wrap64 ((m : Int) - 1) = (q : Int) := HWM.out
          go_wp2_with (fail)
          clear hwm
          go_roundg g'
          case measure => omega
          case rel => exact ⟨⟨x.laid ++ [(f : Int)], x.met, x.gone, x.path.take q⟩, _, _, pc, cap5, q, l + 1, rfl, rfl, by dsimp only; rw [List.length_take, HML.out]; omega, by dsimp only; rw [List.length_append, HLL.out]; rfl, by have := HLK.out; omega, HS1.out, HLE.out, HRU.out, HB5.out, HO5.out⟩
        · have hkl2 : k < (row.length : Int) := by omega
          have hk0 : 0 ≤ k := htin.1
          have hkn : k.toNat < row.length := by omega
          obtain ⟨tt, htt⟩ : ∃ tt, row[k.toNat]? = some tt := ⟨_, List.getElem?_eq_getElem hkn⟩
          have htr := HIN.out row (List.mem_of_getElem? HROW.out) tt (List.mem_of_getElem? htt)
          rw [← HN.out] at htr
          obtain ⟨t, rfl⟩ : ∃ t : Nat, tt = t := ⟨tt.toNat, by omega⟩
          have htn : t < n := by omega
          have hti : (t : Int) < (n : Int) := by omega
          obtain ⟨rb, hra, hrl, hrc⟩ := HRR.out (fun e => by rw [e] at hkn; simp at hkn)
          subst hra
          have c8 := (HBX.out.cell (p := ⟨rb, k.toNat, none⟩) hrl).trans (hrc k.toNat t htt)
          have qk : (k == ((row.length : Nat) : Int)) = false := by simp; omega
          have HWK := Lib.hid (show wrap64 (k + 1) = k + 1 from Go.IntWalk.wrap64_in _ (by
            have h2 := row_le HROW.out
            omega))
          have HST := Lib.hid (OS.step_way HF.out HROW.out (k := k.toNat) (by rw [HK.out]; omega) htt)
          rw [Int.toNat_of_nonneg hk0] at HST
          obtain ⟨mb, hmb⟩ : ∃ b, x.met[t]? = some b := ⟨_, List.getElem?_eq_getElem (by rw [HOK.out.ml, ← HN.out]; exact htn)⟩
          have hmd : x.met.getD t false = mb := by rw [List.getD_eq_getElem?_getD, hmb]; rfl
          rw [hmd] at HST
          have HMBT := Lib.hid hmb
          clear htt hrc htin hkn hkl htr hmb hmd
          have hwm : wrap64 ((m : Int) - 1) = (q : Int) := HWM.out
          go_upto_region 9 with (fail)
          clear hwm
          go_quiet (fail)
          rename Nat => n1
          go_upto_region 12 with (fail)
          go_quiet (fail)
          have hwk := HWK.out
          go_upto_region 14 with (fail)
          clear hwk
          have hbd := below_drewN (Below.refl wr.heap.size wr) (n1 + nq)
          have hoy := (HOX.out.below hbd).putgone (HOK.out.gl.trans HN.out.symm) hfn (k + 1)
          have hby := below_put (below_drewN HBX.out (n1 + nq)) y6 f (.int .i64 (k + 1))
          clear hbd c5 c6 c7 c8 g0 z6 l6 l7 lG qk HOX HBX
          generalize (wr.drewN (n1 + nq)).setCell ⟨gg, f, none⟩ (.int .i64 (k + 1)) = wy at *
          have HOY := Lib.hid hoy; have HBY := Lib.hid hby
          clear hoy hby
          have hmr := HOY.out.mrow
          have hml2 : x.met.length = n := HOK.out.ml.trans HN.out.symm
          obtain ⟨d1, d2, d3, d4⟩ := bool_at hmr HMBT.out
          have HD3 := Lib.hid d3; have HML2 := Lib.hid hml2
          clear hmr hml2 d3
          cases mb
          · rw [if_neg (by decide)] at HST
            have hE := HST.out
            rw [hE] at HRU HLE HS1
            clear hE HST
            go_upto_region 16 with (fail)
            have HO6 := Lib.hid (HOY.out.putmet HML2.out htn true)
            have HB6 := Lib.hid (below_put HBY.out HD3.out t (.bool true))
            clear d1 d2 d4 HOY HBY
            generalize wy.setCell ⟨mg, t, none⟩ (.bool true) = w6 at *
            have hBw6 : w.heap.size ≤ w6.heap.size := HB6.out.size
            go_wp2_with (at_builtin; refine wpList_append_lies _ rfl _ _ 35 rfl w.heap.size 3 i0 (.int .i64 0) 1 8 Try.underlying35 HI.out HZ0.out HZ1.out HZ2.out rfl (by decide) _ m (x.path.map iV) rfl ?hown ⟨w6.heap.size, 0, none⟩ 1 1 [.int .i64 t] rfl rfl ?hnews (one_int _) (by decide) ?h63 ?hby ?hba (w6.heap.size + 1) ?hH ?_)
            case hown =>
              have := (HO6.out.below ((Below.refl _ _).alloc (Nat.le_refl _) (.cells #[.int .i64 t] 3 (0, 0)))).bag.row 1 _ _ rfl
              rw [HML.out] at this
              exact this
            all_goals try (case hnews => exact World.news_of_block (cs := #[.int .i64 t]) (alloc_at _ _ _ rfl))
            case h63 => have := HMBD.out; unfold maxLen; omega
            case hby => have := HMBD.out; omega
            case hba => first | omega | (simp; omega)
            all_goals try (case hH => simp)
            intro b7 cap7 w7 hown7 hgr7 hat7 hlt7
            have hoa := HO6.out.below ((Below.refl _ _).alloc (Nat.le_refl _) (.cells #[.int .i64 t] 3 (0, 0)))
            have hr7 := hoa.bag.row 1 _ _ rfl
            have HO7 := Lib.hid (hoa.apppath HML.out t hown7 hgr7 (by rcases hat7 with h | h; exact .inl h; exact .inr (by simp; omega)))
            have HB7 := Lib.hid ((HB6.out.alloc hBw6 _).grown hgr7 (by simp; omega) (fun k hk => (hr7.lt k hk).1))
            clear hoa hr7 hown7 hgr7 hat7 hlt7 HO6 HB6
            go_wp2_with (fail)
            go_roundg g'
            case measure => omega
            case rel => exact ⟨⟨x.laid, x.met.set t true, x.gone.set f (k + 1), x.path ++ [(t : Int)]⟩, _, la, cap7, lc, m + 1, l, rfl, rfl, by dsimp only; rw [List.length_append, HML.out]; rfl, HLL.out, by have := HLK.out; omega, HS1.out, HLE.out, HRU.out, HB7.out, HO7.out⟩
          · rw [if_pos rfl] at HST
            have hE := HST.out
            rw [hE] at HRU HLE HS1
            clear hE HST
            go_wp2_with (fail)
            go_roundg g'
            case measure => omega
            case rel => exact ⟨⟨x.laid, x.met, x.gone.set f (k + 1), x.path⟩, _, la, pc, lc, m, l, rfl, rfl, HML.out, HLL.out, by have := HLK.out; omega, HS1.out, HLE.out, HRU.out, HBY.out, HOY.out⟩
end Go.Proofs.Ytipongpgmbhpkaa
