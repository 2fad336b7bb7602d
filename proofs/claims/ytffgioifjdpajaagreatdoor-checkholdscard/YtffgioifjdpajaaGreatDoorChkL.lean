/-
  The checker: stmt, and every block.
-/
import Derived.Test.YtffgioifjdpajaaGreatDoorChkK
namespace Go.Proofs.YtffgioifjdpajaaGreatDoor
open Go.ChangeShapes Go.WideShapes Go.ChangeAt Go.RowKit
set_option linter.unusedVariables false

def StAt (does : Int) : Prop := ∀ (l c : Int) (name : List UInt8) (es : List Ex) (thn els : List Sm), (Sm.mk does l c name es thn els).fit = true → BlOk thn → BlOk els → StOk (.mk does l c name es thn els)
set_option maxHeartbeats 2000000 in
set_option maxRecDepth 100000 in
theorem ckst_let : StAt 1 := by
  intro l c name es thn els hfit hbt hbe base C G F L k w cs hty hroom h hat
  have HE := Lib.hid (show ckStmt (.mk 1 l c name es thn els) k = ckLet l c name es k by simp [ckStmt])
  rw [HE.out]
  simp only [Sm.fit, Bool.and_eq_true, decide_eq_true_eq] at hfit
  obtain ⟨⟨⟨hn, hsh⟩, hft⟩, hfe⟩ := hfit
  obtain ⟨ev, ta, tc, la, lc, rfl, h1, h2, h3⟩ := sm_parts hat
  obtain ⟨ea, ecap, rfl, _⟩ := kids_parts h1
  have HC := Lib.hid h; have HN := Lib.hid hn; have HTY := Lib.hid hty; have HROOM := Lib.hid hroom
  have HS := Lib.hid (show SmIn base l c es w (.slice ea es.length ecap) from ⟨h1, hsh⟩)
  have HBT := Lib.hid hbt; have HBE := Lib.hid hbe; have H2 := Lib.hid h2; have H3 := Lib.hid h3
  have hlt : C < w.heap.size := by obtain ⟨_, _, q, _⟩ := h.open; exact q
  have hltL : L < w.heap.size := h.nmL.lt
  have hlow := h.low.1
  have HXB := Lib.hid (show ∀ q, (q = C ∨ q = L) → base ≤ q from fun q hq => by rcases hq with rfl | rfl; exact hlow; exact (h.low.2.2.2 _ rfl).1)
  clear h hat h1 h2 h3 hn hsh hft hfe hty hroom hbt hbe HE
  unfold cellsS
  go_enter Tryz.func34, Tryz.ntmps34
  go_wp2_with (fail)
  refine (let_ck HN.out HTY.out (by have := HROOM.out; omega) (HC.out.alloc _) (HS.out.turn ((Turn.refl (· = C) w).alloc _) (fun q hq => by subst hq; exact hlow))).mono ?_
  rintro e w2 ⟨rfl, ht2, hc2⟩
  have HT2 := Lib.hid ht2; have HC2 := Lib.hid hc2
  clear ht2 hc2
  go_wp2_with (fail)
  go_end0
  exact ⟨rfl, (((Turn.refl (· = C) w).alloc _).two).trans HT2.out, HC2.out⟩
set_option maxHeartbeats 2000000 in
set_option maxRecDepth 100000 in
theorem ckst_set : StAt 2 := by
  intro l c name es thn els hfit hbt hbe base C G F L k w cs hty hroom h hat
  have HE := Lib.hid (show ckStmt (.mk 2 l c name es thn els) k = ckPart es 0 (k.variable name) l c (k.unless (!(k.variable name == 0)) 21 l c) by simp [ckStmt])
  rw [HE.out]
  simp only [Sm.fit, Bool.and_eq_true, decide_eq_true_eq] at hfit
  obtain ⟨⟨⟨hn, hsh⟩, hft⟩, hfe⟩ := hfit
  obtain ⟨ev, ta, tc, la, lc, rfl, h1, h2, h3⟩ := sm_parts hat
  obtain ⟨ea, ecap, rfl, _⟩ := kids_parts h1
  have HC := Lib.hid h; have HN := Lib.hid hn; have HTY := Lib.hid hty; have HROOM := Lib.hid hroom
  have HS := Lib.hid (show SmIn base l c es w (.slice ea es.length ecap) from ⟨h1, hsh⟩)
  have HBT := Lib.hid hbt; have HBE := Lib.hid hbe; have H2 := Lib.hid h2; have H3 := Lib.hid h3
  have hlt : C < w.heap.size := by obtain ⟨_, _, q, _⟩ := h.open; exact q
  have hltL : L < w.heap.size := h.nmL.lt
  have hlow := h.low.1
  have HXB := Lib.hid (show ∀ q, (q = C ∨ q = L) → base ≤ q from fun q hq => by rcases hq with rfl | rfl; exact hlow; exact (h.low.2.2.2 _ rfl).1)
  clear h hat h1 h2 h3 hn hsh hft hfe hty hroom hbt hbe HE
  unfold cellsS
  go_enter Tryz.func34, Tryz.ntmps34
  go_wp2_with (fail)
  refine (set_ck HN.out (HC.out.alloc _) (HS.out.turn ((Turn.refl (· = C) w).alloc _) (fun q hq => by subst hq; exact hlow))).mono ?_
  rintro e w2 ⟨rfl, ht2, hc2⟩
  have HT2 := Lib.hid ht2; have HC2 := Lib.hid hc2
  clear ht2 hc2
  go_wp2_with (fail)
  go_end0
  exact ⟨rfl, (((Turn.refl (· = C) w).alloc _).trans HT2.out).two, HC2.out⟩
set_option maxHeartbeats 2000000 in
set_option maxRecDepth 100000 in
theorem ckst_put : StAt 3 := by
  intro l c name es thn els hfit hbt hbe base C G F L k w cs hty hroom h hat
  have HE := Lib.hid (show ckStmt (.mk 3 l c name es thn els) k = ckPart es 1 1 l c (ckPart es 0 1 l c (k.unless (k.array name) 21 l c)) by simp [ckStmt])
  rw [HE.out]
  simp only [Sm.fit, Bool.and_eq_true, decide_eq_true_eq] at hfit
  obtain ⟨⟨⟨hn, hsh⟩, hft⟩, hfe⟩ := hfit
  obtain ⟨ev, ta, tc, la, lc, rfl, h1, h2, h3⟩ := sm_parts hat
  obtain ⟨ea, ecap, rfl, _⟩ := kids_parts h1
  have HC := Lib.hid h; have HN := Lib.hid hn; have HTY := Lib.hid hty; have HROOM := Lib.hid hroom
  have HS := Lib.hid (show SmIn base l c es w (.slice ea es.length ecap) from ⟨h1, hsh⟩)
  have HBT := Lib.hid hbt; have HBE := Lib.hid hbe; have H2 := Lib.hid h2; have H3 := Lib.hid h3
  have hlt : C < w.heap.size := by obtain ⟨_, _, q, _⟩ := h.open; exact q
  have hltL : L < w.heap.size := h.nmL.lt
  have hlow := h.low.1
  have HXB := Lib.hid (show ∀ q, (q = C ∨ q = L) → base ≤ q from fun q hq => by rcases hq with rfl | rfl; exact hlow; exact (h.low.2.2.2 _ rfl).1)
  clear h hat h1 h2 h3 hn hsh hft hfe hty hroom hbt hbe HE
  unfold cellsS
  go_enter Tryz.func34, Tryz.ntmps34
  go_wp2_with (fail)
  refine (put_ck HN.out (HC.out.alloc _) (HS.out.turn ((Turn.refl (· = C) w).alloc _) (fun q hq => by subst hq; exact hlow))).mono ?_
  rintro e w2 ⟨rfl, ht2, hc2⟩
  have HT2 := Lib.hid ht2; have HC2 := Lib.hid hc2
  clear ht2 hc2
  go_wp2_with (fail)
  go_end0
  exact ⟨rfl, (((Turn.refl (· = C) w).alloc _).trans HT2.out).two, HC2.out⟩
set_option maxHeartbeats 2000000 in
set_option maxRecDepth 100000 in
theorem ckst_return : StAt 6 := by
  intro l c name es thn els hfit hbt hbe base C G F L k w cs hty hroom h hat
  have HE := Lib.hid (show ckStmt (.mk 6 l c name es thn els) k = ckPart es 0 1 l c k by simp [ckStmt])
  rw [HE.out]
  simp only [Sm.fit, Bool.and_eq_true, decide_eq_true_eq] at hfit
  obtain ⟨⟨⟨hn, hsh⟩, hft⟩, hfe⟩ := hfit
  obtain ⟨ev, ta, tc, la, lc, rfl, h1, h2, h3⟩ := sm_parts hat
  obtain ⟨ea, ecap, rfl, _⟩ := kids_parts h1
  have HC := Lib.hid h; have HN := Lib.hid hn; have HTY := Lib.hid hty; have HROOM := Lib.hid hroom
  have HS := Lib.hid (show SmIn base l c es w (.slice ea es.length ecap) from ⟨h1, hsh⟩)
  have HBT := Lib.hid hbt; have HBE := Lib.hid hbe; have H2 := Lib.hid h2; have H3 := Lib.hid h3
  have hlt : C < w.heap.size := by obtain ⟨_, _, q, _⟩ := h.open; exact q
  have hltL : L < w.heap.size := h.nmL.lt
  have hlow := h.low.1
  have HXB := Lib.hid (show ∀ q, (q = C ∨ q = L) → base ≤ q from fun q hq => by rcases hq with rfl | rfl; exact hlow; exact (h.low.2.2.2 _ rfl).1)
  clear h hat h1 h2 h3 hn hsh hft hfe hty hroom hbt hbe HE
  unfold cellsS
  go_enter Tryz.func34, Tryz.ntmps34
  go_wp2_with (fail)
  refine (part_any 0 (by omega) 1 (HC.out.alloc _) (HS.out.turn ((Turn.refl (· = C) w).alloc _) (fun q hq => by subst hq; exact hlow))).mono ?_
  rintro e w2 ⟨rfl, ht2, hc2⟩
  have HT2 := Lib.hid ht2; have HC2 := Lib.hid hc2
  clear ht2 hc2
  go_wp2_with (fail)
  go_end0
  exact ⟨rfl, (((Turn.refl (· = C) w).alloc _).trans HT2.out).two, HC2.out⟩
set_option maxHeartbeats 2000000 in
set_option maxRecDepth 100000 in
theorem ckst_run : StAt 7 := by
  intro l c name es thn els hfit hbt hbe base C G F L k w cs hty hroom h hat
  have HE := Lib.hid (show ckStmt (.mk 7 l c name es thn els) k = ckPart es 0 1 l c k by simp [ckStmt])
  rw [HE.out]
  simp only [Sm.fit, Bool.and_eq_true, decide_eq_true_eq] at hfit
  obtain ⟨⟨⟨hn, hsh⟩, hft⟩, hfe⟩ := hfit
  obtain ⟨ev, ta, tc, la, lc, rfl, h1, h2, h3⟩ := sm_parts hat
  obtain ⟨ea, ecap, rfl, _⟩ := kids_parts h1
  have HC := Lib.hid h; have HN := Lib.hid hn; have HTY := Lib.hid hty; have HROOM := Lib.hid hroom
  have HS := Lib.hid (show SmIn base l c es w (.slice ea es.length ecap) from ⟨h1, hsh⟩)
  have HBT := Lib.hid hbt; have HBE := Lib.hid hbe; have H2 := Lib.hid h2; have H3 := Lib.hid h3
  have hlt : C < w.heap.size := by obtain ⟨_, _, q, _⟩ := h.open; exact q
  have hltL : L < w.heap.size := h.nmL.lt
  have hlow := h.low.1
  have HXB := Lib.hid (show ∀ q, (q = C ∨ q = L) → base ≤ q from fun q hq => by rcases hq with rfl | rfl; exact hlow; exact (h.low.2.2.2 _ rfl).1)
  clear h hat h1 h2 h3 hn hsh hft hfe hty hroom hbt hbe HE
  unfold cellsS
  go_enter Tryz.func34, Tryz.ntmps34
  go_wp2_with (fail)
  refine (part_any 0 (by omega) 1 (HC.out.alloc _) (HS.out.turn ((Turn.refl (· = C) w).alloc _) (fun q hq => by subst hq; exact hlow))).mono ?_
  rintro e w2 ⟨rfl, ht2, hc2⟩
  have HT2 := Lib.hid ht2; have HC2 := Lib.hid hc2
  clear ht2 hc2
  go_wp2_with (fail)
  go_end0
  exact ⟨rfl, (((Turn.refl (· = C) w).alloc _).trans HT2.out).two, HC2.out⟩
set_option maxHeartbeats 2000000 in
set_option maxRecDepth 100000 in
theorem ckst_if : StAt 4 := by
  intro l c name es thn els hfit hbt hbe base C G F L k w cs hty hroom h hat
  have HE := Lib.hid (show ckStmt (.mk 4 l c name es thn els) k = ckBlock els (ckBlock thn (ckPart es 0 2 l c k)) by simp [ckStmt, ckBlock])
  rw [HE.out]
  simp only [Sm.fit, Bool.and_eq_true, decide_eq_true_eq] at hfit
  obtain ⟨⟨⟨hn, hsh⟩, hft⟩, hfe⟩ := hfit
  obtain ⟨ev, ta, tc, la, lc, rfl, h1, h2, h3⟩ := sm_parts hat
  obtain ⟨ea, ecap, rfl, _⟩ := kids_parts h1
  have HC := Lib.hid h; have HN := Lib.hid hn; have HTY := Lib.hid hty; have HROOM := Lib.hid hroom
  have HS := Lib.hid (show SmIn base l c es w (.slice ea es.length ecap) from ⟨h1, hsh⟩)
  have HBT := Lib.hid hbt; have HBE := Lib.hid hbe; have H2 := Lib.hid h2; have H3 := Lib.hid h3
  have hlt : C < w.heap.size := by obtain ⟨_, _, q, _⟩ := h.open; exact q
  have hltL : L < w.heap.size := h.nmL.lt
  have hlow := h.low.1
  have HXB := Lib.hid (show ∀ q, (q = C ∨ q = L) → base ≤ q from fun q hq => by rcases hq with rfl | rfl; exact hlow; exact (h.low.2.2.2 _ rfl).1)
  clear h hat h1 h2 h3 hn hsh hft hfe hty hroom hbt hbe HE
  unfold cellsS
  go_enter Tryz.func34, Tryz.ntmps34
  go_wp2_with (fail)
  refine (part_any 0 (by omega) 2 (HC.out.alloc _) (HS.out.turn ((Turn.refl (· = C) w).alloc _) (fun q hq => by subst hq; exact hlow))).mono ?_
  rintro e w2 ⟨rfl, ht2, hc2⟩
  have hbx := boxS hlt ht2
  obtain ⟨d0, d1, d2, d3, d4, d5, d6⟩ := ownS hbx
  have hsz : w.heap.size < w2.heap.size := (Array.getElem?_eq_some_iff.1 hbx).1
  have HT2 := Lib.hid ((((Turn.refl (· = C) w).alloc _).trans ht2).two (L := L)); have HC2 := Lib.hid hc2; have HBX := Lib.hid hbx
  clear ht2 hc2 hbx
  have HG1 := Lib.hid (Grown.same (part_same es 0 2 l c k) 0)
  have HG2 := Lib.hid (block_grown thn (ckPart es 0 2 l c k))
  have HR1 := Lib.hid (show (ckPart es 0 2 l c k).lm.length + Sm.grows thn ≤ 1000000 by have q1 := HROOM.out; have q2 := HG1.out.2; simp only [Sm.grow] at q1; omega)
  have HR2 := Lib.hid (show (ckBlock thn (ckPart es 0 2 l c k)).lm.length + Sm.grows els ≤ 1000000 by have q1 := HROOM.out; have q2 := HG1.out.2; have q3 := HG2.out.2; simp only [Sm.grow] at q1; omega)
  go_wp2_with (fail)
  refine (HBT.out base C G F L _ _ _ (HG1.out.1 HTY.out) HR1.out HC2.out (H2.out.turn HT2.out HXB.out)).mono ?_
  rintro e w3 ⟨rfl, ht3, hc3⟩
  have hbx3 := (ht3.block _ hsz (by omega)).trans HBX.out
  obtain ⟨f0, f1, f2, f3, f4, f5, f6⟩ := ownS hbx3
  have hsz3 : w.heap.size < w3.heap.size := (Array.getElem?_eq_some_iff.1 hbx3).1
  have HT3 := Lib.hid (HT2.out.trans ht3); have HC3 := Lib.hid hc3
  clear ht3 hc3 hbx3
  go_wp2_with (fail)
  refine (HBE.out base C G F L _ _ _ (HG2.out.1 (HG1.out.1 HTY.out)) HR2.out HC3.out (H3.out.turn HT3.out HXB.out)).mono ?_
  rintro e w4 ⟨rfl, ht4, hc4⟩
  have HT4 := Lib.hid ht4; have HC4 := Lib.hid hc4
  clear ht4 hc4
  go_wp2_with (fail)
  go_end0
  exact ⟨rfl, HT3.out.trans HT4.out, HC4.out⟩
set_option maxHeartbeats 2000000 in
set_option maxRecDepth 100000 in
theorem ckst_while : StAt 5 := by
  intro l c name es thn els hfit hbt hbe base C G F L k w cs hty hroom h hat
  have HE := Lib.hid (show ckStmt (.mk 5 l c name es thn els) k = ckBlock els (ckBlock thn (ckPart es 0 2 l c k)) by simp [ckStmt, ckBlock])
  rw [HE.out]
  simp only [Sm.fit, Bool.and_eq_true, decide_eq_true_eq] at hfit
  obtain ⟨⟨⟨hn, hsh⟩, hft⟩, hfe⟩ := hfit
  obtain ⟨ev, ta, tc, la, lc, rfl, h1, h2, h3⟩ := sm_parts hat
  obtain ⟨ea, ecap, rfl, _⟩ := kids_parts h1
  have HC := Lib.hid h; have HN := Lib.hid hn; have HTY := Lib.hid hty; have HROOM := Lib.hid hroom
  have HS := Lib.hid (show SmIn base l c es w (.slice ea es.length ecap) from ⟨h1, hsh⟩)
  have HBT := Lib.hid hbt; have HBE := Lib.hid hbe; have H2 := Lib.hid h2; have H3 := Lib.hid h3
  have hlt : C < w.heap.size := by obtain ⟨_, _, q, _⟩ := h.open; exact q
  have hltL : L < w.heap.size := h.nmL.lt
  have hlow := h.low.1
  have HXB := Lib.hid (show ∀ q, (q = C ∨ q = L) → base ≤ q from fun q hq => by rcases hq with rfl | rfl; exact hlow; exact (h.low.2.2.2 _ rfl).1)
  clear h hat h1 h2 h3 hn hsh hft hfe hty hroom hbt hbe HE
  unfold cellsS
  go_enter Tryz.func34, Tryz.ntmps34
  go_wp2_with (fail)
  refine (part_any 0 (by omega) 2 (HC.out.alloc _) (HS.out.turn ((Turn.refl (· = C) w).alloc _) (fun q hq => by subst hq; exact hlow))).mono ?_
  rintro e w2 ⟨rfl, ht2, hc2⟩
  have hbx := boxS hlt ht2
  obtain ⟨d0, d1, d2, d3, d4, d5, d6⟩ := ownS hbx
  have hsz : w.heap.size < w2.heap.size := (Array.getElem?_eq_some_iff.1 hbx).1
  have HT2 := Lib.hid ((((Turn.refl (· = C) w).alloc _).trans ht2).two (L := L)); have HC2 := Lib.hid hc2; have HBX := Lib.hid hbx
  clear ht2 hc2 hbx
  have HG1 := Lib.hid (Grown.same (part_same es 0 2 l c k) 0)
  have HG2 := Lib.hid (block_grown thn (ckPart es 0 2 l c k))
  have HR1 := Lib.hid (show (ckPart es 0 2 l c k).lm.length + Sm.grows thn ≤ 1000000 by have q1 := HROOM.out; have q2 := HG1.out.2; simp only [Sm.grow] at q1; omega)
  have HR2 := Lib.hid (show (ckBlock thn (ckPart es 0 2 l c k)).lm.length + Sm.grows els ≤ 1000000 by have q1 := HROOM.out; have q2 := HG1.out.2; have q3 := HG2.out.2; simp only [Sm.grow] at q1; omega)
  go_wp2_with (fail)
  refine (HBT.out base C G F L _ _ _ (HG1.out.1 HTY.out) HR1.out HC2.out (H2.out.turn HT2.out HXB.out)).mono ?_
  rintro e w3 ⟨rfl, ht3, hc3⟩
  have hbx3 := (ht3.block _ hsz (by omega)).trans HBX.out
  obtain ⟨f0, f1, f2, f3, f4, f5, f6⟩ := ownS hbx3
  have hsz3 : w.heap.size < w3.heap.size := (Array.getElem?_eq_some_iff.1 hbx3).1
  have HT3 := Lib.hid (HT2.out.trans ht3); have HC3 := Lib.hid hc3
  clear ht3 hc3 hbx3
  go_wp2_with (fail)
  refine (HBE.out base C G F L _ _ _ (HG2.out.1 (HG1.out.1 HTY.out)) HR2.out HC3.out (H3.out.turn HT3.out HXB.out)).mono ?_
  rintro e w4 ⟨rfl, ht4, hc4⟩
  have HT4 := Lib.hid ht4; have HC4 := Lib.hid hc4
  clear ht4 hc4
  go_wp2_with (fail)
  go_end0
  exact ⟨rfl, HT3.out.trans HT4.out, HC4.out⟩
set_option maxHeartbeats 2000000 in
set_option maxRecDepth 100000 in
theorem ckst_else (does : Int) (h1 : does ≠ 1) (h2 : does ≠ 2) (h3 : does ≠ 3) (h4 : does ≠ 4) (h5 : does ≠ 5) (h6 : does ≠ 6) (h7 : does ≠ 7) : StAt does := by
  intro l c name es thn els hfit hbt hbe base C G F L k w cs hty hroom h hat
  have HE := Lib.hid (show ckStmt (.mk does l c name es thn els) k = k.fail 40 l c by simp [ckStmt, h1, h2, h3, h4, h5, h6, h7])
  rw [HE.out]
  simp only [Sm.fit, Bool.and_eq_true, decide_eq_true_eq] at hfit
  obtain ⟨⟨⟨hn, hsh⟩, hft⟩, hfe⟩ := hfit
  obtain ⟨ev, ta, tc, la, lc, rfl, g1, g2, g3⟩ := sm_parts hat
  obtain ⟨ea, ecap, rfl, _⟩ := kids_parts g1
  have HC := Lib.hid h; have HN := Lib.hid hn; have HTY := Lib.hid hty; have HROOM := Lib.hid hroom
  have HS := Lib.hid (show SmIn base l c es w (.slice ea es.length ecap) from ⟨g1, hsh⟩)
  have HBT := Lib.hid hbt; have HBE := Lib.hid hbe; have H2 := Lib.hid g2; have H3 := Lib.hid g3
  have hlt : C < w.heap.size := by obtain ⟨_, _, q, _⟩ := h.open; exact q
  have hltL : L < w.heap.size := h.nmL.lt
  have hlow := h.low.1
  have HXB := Lib.hid (show ∀ q, (q = C ∨ q = L) → base ≤ q from fun q hq => by rcases hq with rfl | rfl; exact hlow; exact (h.low.2.2.2 _ rfl).1)
  clear h hat g1 g2 g3 hn hsh hft hfe hty hroom hbt hbe HE
  unfold cellsS
  have b1 : (does == 1) = false := by simpa using h1
  have b2 : (does == 2) = false := by simpa using h2
  have b3 : (does == 3) = false := by simpa using h3
  have b4 : (does == 4) = false := by simpa using h4
  have b5 : (does == 5) = false := by simpa using h5
  have b6 : (does == 6) = false := by simpa using h6
  have b7 : (does == 7) = false := by simpa using h7
  clear h1 h2 h3 h4 h5 h6 h7
  go_enter Tryz.func34, Tryz.ntmps34
  go_wp2_with (fail)
  refine (ckfail_any (HC.out.alloc _) 40 l c).mono ?_
  rintro e w2 ⟨rfl, ht2, hc2⟩
  have HT2 := Lib.hid ht2; have HC2 := Lib.hid hc2
  clear ht2 hc2
  go_wp2_with (fail)
  go_end0
  exact ⟨rfl, (((Turn.refl (· = C) w).alloc _).trans HT2.out).two, HC2.out⟩
theorem ckst_does (does : Int) : StAt does := by
  by_cases h1 : does = 1
  · subst h1; exact ckst_let
  by_cases h2 : does = 2
  · subst h2; exact ckst_set
  by_cases h3 : does = 3
  · subst h3; exact ckst_put
  by_cases h4 : does = 4
  · subst h4; exact ckst_if
  by_cases h5 : does = 5
  · subst h5; exact ckst_while
  by_cases h6 : does = 6
  · subst h6; exact ckst_return
  by_cases h7 : does = 7
  · subst h7; exact ckst_run
  exact ckst_else does h1 h2 h3 h4 h5 h6 h7
theorem blocks_size : ∀ n : Nat, (∀ s : Sm, s.grow ≤ n → s.fit = true → StOk s) ∧ (∀ l : List Sm, Sm.grows l ≤ n → Sm.fits l = true → BlOk l)
  | 0 => ⟨fun s hs => by cases s; simp [Sm.grow] at hs, fun l hl hf => by
      cases l with
      | nil => exact block_ck (fun i h => by simp at h) rfl
      | cons s r => simp [Sm.grows] at hl⟩
  | n + 1 => by
    obtain ⟨ih1, ih2⟩ := blocks_size n
    have hst : ∀ s : Sm, s.grow ≤ n + 1 → s.fit = true → StOk s := fun s hs hf => by
      cases s with
      | mk does l c name es thn els =>
        have hf' := hf
        simp only [Sm.fit, Bool.and_eq_true, decide_eq_true_eq] at hf'
        simp only [Sm.grow] at hs
        exact ckst_does does l c name es thn els hf (ih2 thn (by omega) hf'.1.2) (ih2 els (by omega) hf'.2)
    exact ⟨hst, fun l hl hf => block_ck (fun i h => ih1 _ (by have := Sm.grows_at i h; omega) (Sm.fits_at hf i h)) hf⟩
theorem blocks_ok (l : List Sm) (h : Sm.fits l = true) : BlOk l := (blocks_size (Sm.grows l)).2 l (Nat.le_refl _) h
end Go.Proofs.YtffgioifjdpajaaGreatDoor
